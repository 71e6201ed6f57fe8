import PyProof.Rows.All
import Wide.All
import OpenK.AllK
import Wide.FinOn
import HandS.ForMost
import HandS.Exc
import HandS.TryOnly
import HandS.ExcOwn
import HandS.WordsExc
import HandS.Wide
import HandS.FStr
import HandS.RaiseMore
import HandS.WrittenGet
import HandS.Walk
import HandS.Steps
import HandS.Style
import HandS.Flow
import HandS.Conv
import HandS.DictComp
import HandS.IsInst
import HandS.Dict
import HandS.Nested
import HandS.DeepEq
import HandS.Comp
import HandS.Iter
import HandS.TryMany
import HandS.ExcIs
import PyProof.NeKinds
import HandS.EndTab
import KE.KNestM
import PySem.Challenge.RW_anewhall_k32_book_refused
set_option Elab.async false
set_option linter.all false
set_option maxRecDepth 100000
namespace Aw
open PySem L2
/-! ### the mirror: trees, words, the parser, the lexer -/
inductive Kd where
  | sum | least | most
  deriving DecidableEq
def Kd.nm : Kd → Str
  | .sum => "sum"
  | .least => "least"
  | .most => "most"
def Kd.sg : Kd → Str
  | .sum => "+"
  | .least => "&"
  | .most => "|"
inductive T where
  | num (n : Int)
  | name (s : Str)
  | gate (s : Str) (b : Int) (t : T)
  | join (k : Kd) (ts : List T)
/-- a whole number's text -/
def tx (i : Int) : Str := toString i
def wd (ws : List Str) (i : Nat) : Str := ws.getD i Str.empty
def LET : List Nat := (("abcdefghijklmnopqrstuvwxyz" : Str)).cps.toList
def FIG : List Nat := (("0123456789" : Str)).cps.toList
def OTH : List Nat := (("+&|()[]" : Str)).cps.toList
def nameM (s : Str) : Bool := decide (1 ≤ s.length ∧ s.length ≤ 6) && s.cps.toList.all fun c => decide (c ∈ LET)
def numM (lo : Int) (w : Str) : Option Int := ((List.range (31 - lo).toNat).find? fun i => decide (w = tx (lo + (i : Nat)))).map fun i => lo + (i : Nat)
section
variable (ws : List Str)
def chainM (f : Nat → Option (T × Nat)) (sg : Str) : Nat → List T → Nat → Option (List T × Nat)
  | 0, _, _ => none
  | n + 1, ts, j => if wd ws j = sg then
      match f (j + 1) with
      | none => none
      | some (t, j') => chainM f sg n (ts ++ [t]) j'
    else some (ts, j)
/-- what the chain of pieces comes to -/
def joinM (k : Kd) (ts : List T) : Option T := if 8 < ts.length then none else
  match ts with
  | [t] => some t
  | _ => some (.join k ts)
def levelM (f : Nat → Option (T × Nat)) : List Kd → Nat → Option (T × Nat)
  | [], i => f i
  | k :: ks, i =>
    match levelM f ks i with
    | none => none
    | some (t, j) =>
      match chainM ws (levelM f ks) k.sg (ws.length + 1) [t] j with
      | none => none
      | some (ts, j') => (joinM k ts).map fun t => (t, j')
def kinds : List Kd := [.most, .least, .sum]
def gateM (f : Nat → Option (T × Nat)) (i : Nat) : Option (T × Nat) :=
  if nameM (wd ws i) = true then
    match numM 1 (wd ws (i + 1)) with
    | none => none
    | some b => if wd ws (i + 2) = "]" then (f (i + 3)).map fun r => (.gate (wd ws i) b r.1, r.2) else none
  else none
def pieceM : Nat → Nat → Option (T × Nat)
  | 0, _ => none
  | d + 1, i =>
    if wd ws i = "(" then
      match levelM ws (pieceM d) kinds (i + 1) with
      | none => none
      | some (t, j) => if wd ws j = ")" then some (t, j + 1) else none
    else if wd ws i = "[" then gateM ws (pieceM d) (i + 1)
    else if nameM (wd ws i) = true then some (.name (wd ws i), i + 1)
    else (numM 0 (wd ws i)).map fun n => (.num n, i + 1)
end
inductive Kn where
  | letter | figure | other | blank
  deriving DecidableEq
def Kn.nm : Kn → Str
  | .letter => "letter"
  | .figure => "figure"
  | .other => "other"
  | .blank => "blank"
def sg1 (c : Nat) : Str := ⟨#[c]⟩
def kindM (c : Nat) : Option Kn :=
  if c ∈ LET then some .letter else if c ∈ FIG then some .figure else if c ∈ OTH then some .other else if sg1 c = " " then some .blank else none
def addLast (ws : List Str) (c : Nat) : List Str := ws.set (ws.length - 1) (wd ws (ws.length - 1) ++ sg1 c)
def lexStep (st : List Str × Kn) (c : Nat) (k : Kn) : List Str :=
  if k = st.2 ∧ (k = .letter ∨ k = .figure) then addLast st.1 c else if k ≠ .blank then st.1 ++ [sg1 c] else st.1
def lexGo : List Nat → List Str → Kn → Option (List Str)
  | [], ws, _ => some ws
  | c :: r, ws, b =>
    match kindM c with
    | none => none
    | some k => lexGo r (lexStep (ws, b) c k) k
def lexM (z : Str) : Option (List Str) := lexGo z.cps.toList [] .blank
def readM (z : Str) : Option T :=
  if 400 < z.length then none else
  match lexM z with
  | none => none
  | some ws => if 40 < ws.length then none else
    match levelM ws (pieceM ws 3) kinds 0 with
    | none => none
    | some (t, j) => if wd ws j = Str.empty then some t else none
/-! ### the heap -/
/-- all but what stands at p is as it was -/
def But (p : Addr) (H H' : Hp) : Prop := ∀ b o, H b = some o → b ≠ p → H' b = some o
theorem But.refl (p : Addr) (H : Hp) : But p H H := fun _ _ h _ => h
theorem But.trans {p : Addr} {H H1 H2 : Hp} (a : But p H H1) (b : But p H1 H2) : But p H H2 := fun c o h hc => b c o (a c o h hc) hc
theorem But.of_same {p : Addr} {H H1 : Hp} (a : Same H H1) : But p H H1 := fun c o h _ => a c o h
theorem same_new {H : Hp} {p : Addr} (h : H p = none) (o : HO) : Same H (upd H p o) := fun b u q => by rw [upd_ne (ne_of_none q h)]; exact q
theorem same_upd {H H1 : Hp} {D : Addr} (s : Same H H1) (hD : H D = none) (o : HO) : Same H (upd H1 D o) := fun b u q => by rw [upd_ne (ne_of_none q hD)]; exact s b u q
theorem take_more {α : Type} : ∀ {l : List α} {i : Nat} {x : α}, l[i]? = some x → l.take (i + 1) = l.take i ++ [x]
  | [], i, x, h => by simp at h
  | a :: l, 0, x, h => by
    have e : a = x := Option.some.inj h
    subst e
    rfl
  | a :: l, i + 1, x, h => by
    have ih := take_more (l := l) (i := i) (x := x) h
    show a :: l.take (i + 1) = a :: l.take i ++ [x]
    rw [ih]
    rfl
theorem But.upd {p : Addr} {H : Hp} (o : HO) : But p H (upd H p o) := fun b u q hb => by rw [upd_ne hb]; exact q
mutual
inductive TA (H : Hp) : V → T → Prop
  | num {a : Addr} {n : Int} : H a = some (.tup [.str "number", .int n]) → TA H (.ref a) (.num n)
  | name {a : Addr} {s : Str} : H a = some (.tup [.str "name", .str s]) → TA H (.ref a) (.name s)
  | gate {a : Addr} {s : Str} {b : Int} {v : V} {t : T} : H a = some (.tup [.str "gate", .str s, .int b, v]) → TA H v t → TA H (.ref a) (.gate s b t)
  | join {a p : Addr} {k : Kd} {vs : List V} {ts : List T} : H a = some (.tup [.str k.nm, .ref p]) → H p = some (.tup vs) → TAs H vs ts → TA H (.ref a) (.join k ts)
inductive TAs (H : Hp) : List V → List T → Prop
  | nil : TAs H [] []
  | cons {v : V} {t : T} {vs : List V} {ts : List T} : TA H v t → TAs H vs ts → TAs H (v :: vs) (t :: ts)
end
/-- every tuple stays -/
def Tups (H H' : Hp) : Prop := ∀ b xs, H b = some (.tup xs) → H' b = some (.tup xs)
theorem Tups.of_same {H H' : Hp} (h : Same H H') : Tups H H' := fun b _ q => h b _ q
theorem Tups.of_but {H H' : Hp} {p : Addr} (h : But p H H') (hp : ∀ xs, H p ≠ some (.tup xs)) : Tups H H' := fun b xs q => h b _ q fun e => hp xs (e ▸ q)
mutual
theorem TA.mono {H H' : Hp} (h : Tups H H') : ∀ {v : V} {t : T}, TA H v t → TA H' v t
  | _, _, .num e => .num (h _ _ e)
  | _, _, .name e => .name (h _ _ e)
  | _, _, .gate e q => .gate (h _ _ e) (TA.mono h q)
  | _, _, .join e e2 q => .join (h _ _ e) (h _ _ e2) (TAs.mono h q)
theorem TAs.mono {H H' : Hp} (h : Tups H H') : ∀ {v : List V} {t : List T}, TAs H v t → TAs H' v t
  | _, _, .nil => .nil
  | _, _, .cons a b => .cons (TA.mono h a) (TAs.mono h b)
end
theorem TAs.length {H : Hp} {vs : List V} {ts : List T} (h : TAs H vs ts) : vs.length = ts.length := by
  induction vs generalizing ts with
  | nil => cases h; rfl
  | cons v r ih => cases h with | cons a b => rw [List.length_cons, List.length_cons, ih b]
theorem TAs.snoc {H : Hp} {v : V} {t : T} (h1 : TA H v t) : ∀ {vs : List V} {ts : List T}, TAs H vs ts → TAs H (vs ++ [v]) (ts ++ [t])
  | _, _, .nil => .cons h1 .nil
  | _, _, .cons a b => .cons a (TAs.snoc h1 b)
theorem TAs.get {H : Hp} : ∀ {vs : List V} {ts : List T} {i : Nat} {v : V}, TAs H vs ts → vs[i]? = some v → ∃ t, ts[i]? = some t ∧ TA H v t
  | _, _, i, v, .nil, h => by simp at h
  | _, _, 0, v, .cons a b, h => ⟨_, rfl, by have e := Option.some.inj h; exact e ▸ a⟩
  | _, _, i + 1, v, .cons a b, h => by
    obtain ⟨t, h1, h2⟩ := TAs.get b (i := i) (v := v) (by simpa using h)
    exact ⟨t, by simpa using h1, h2⟩
/-! ### the reader of words -/
def rflds (l : Addr) (i : Nat) : List (Str × V) := putF "at" (.int i) (putF "words" (.ref l) [])
theorem wa : ¬ (("words" : Str) = "at") := by decide +kernel
theorem rflds_words (l : Addr) (i : Nat) : (rflds l i).lookup ("words" : Str) = some (.ref l) := by
  unfold rflds
  rw [lookup_putF, if_neg wa, lookup_putF, if_pos rfl]
theorem rflds_at (l : Addr) (i : Nat) : (rflds l i).lookup ("at" : Str) = some (.int i) := by
  unfold rflds
  rw [lookup_putF, if_pos rfl]
theorem rflds_no (l : Addr) (i : Nat) {m : Str} (h1 : ¬ m = "at") (h2 : ¬ m = "words") : (rflds l i).lookup m = none := by
  unfold rflds
  rw [lookup_putF, if_neg h1, lookup_putF, if_neg h2]
  all_goals rfl
theorem rflds_eq (l : Addr) (i : Nat) : rflds l i = ([("words", V.ref l), ("at", V.int i)] : List (Str × V)) := by
  show (if ("words" : Str) = "at" then [(("words" : Str), V.int i)] else (("words" : Str), V.ref l) :: putF "at" (V.int i) []) = ([("words", V.ref l), ("at", V.int i)] : List (Str × V))
  rw [if_neg wa]
  all_goals rfl
theorem rflds_put (l : Addr) (i : Nat) {z : Int} (hz : z = ((i + 1 : Nat) : Int)) : putF "at" (.int z) (rflds l i) = rflds l (i + 1) := by
  subst hz
  rw [rflds_eq, rflds_eq]
  show (if ("words" : Str) = "at" then _ else (("words" : Str), V.ref l) :: (if ("at" : Str) = "at" then [(("at" : Str), V.int ((i + 1 : Nat) : Int))] else _)) = ([("words", V.ref l), ("at", V.int ((i + 1 : Nat) : Int))] : List (Str × V))
  rw [if_neg wa, if_pos rfl]
structure RdAt (C p l : Addr) (ws : List Str) (i : Nat) (H : Hp) : Prop where
  ob : ∃ dx, H p = some (.ins C dx (rflds l i))
  ls : H l = some (.lst (ws.map V.str))
  ln : ws.length ≤ 1000
theorem RdAt.mono {C p l : Addr} {ws : List Str} {i : Nat} {H H' : Hp} (h : RdAt C p l ws i H) (s : Same H H') : RdAt C p l ws i H' := by
  obtain ⟨dx, e⟩ := h.ob
  exact ⟨⟨dx, s _ _ e⟩, s _ _ h.ls, h.ln⟩
theorem RdAt.tups {C p l : Addr} {ws : List Str} {i : Nat} {H H' : Hp} (h : RdAt C p l ws i H) (s : But p H H') : Tups H H' := by
  obtain ⟨dx, e⟩ := h.ob
  exact Tups.of_but s fun xs q => by rw [e] at q; cases q
theorem RdAt.keep {C p l : Addr} {ws : List Str} {i : Nat} {H H' : Hp} (h : RdAt C p l ws i H) (s : But p H H') {a : Addr} {xs : List V} (e : H a = some (.lst xs)) : H' a = some (.lst xs) := by
  obtain ⟨dx, e1⟩ := h.ob
  exact s _ _ e (ne_of e e1 (by intro z; cases z))
theorem RdAt.ne_new {C p l : Addr} {ws : List Str} {i : Nat} {H : Hp} (h : RdAt C p l ws i H) {a : Addr} (e : H a = none) : p ≠ a := by
  obtain ⟨dx, e1⟩ := h.ob
  exact ne_of_none e1 e
theorem wd_get {ws : List Str} {i : Nat} (h : i < ws.length) : ws[i]? = some (wd ws i) := by
  unfold wd
  rw [List.getD_eq_getElem?_getD, List.getElem?_eq_getElem h]
  rfl
theorem wd_end {ws : List Str} {i : Nat} (h : ¬ i < ws.length) : wd ws i = Str.empty := by
  unfold wd
  rw [List.getD_eq_getElem?_getD, List.getElem?_eq_none (by omega)]
  rfl
theorem wd_lt {ws : List Str} {i : Nat} {s : Str} (h : wd ws i = s) (hs : ¬ Str.empty = s) : i < ws.length := by
  rcases Nat.lt_or_ge i ws.length with q | q
  · exact q
  · exact absurd ((wd_end (by omega)).symm.trans h) hs
/-! ### the promises of the reading -/
def spInit (C : Addr) : Sp := fun vs H Q _ => ∃ (p dx l : Addr), vs = [.ref p, .ref l] ∧ H p = some (.ins C dx []) ∧ ∀ (H' : Hp), H' p = some (.ins C dx (rflds l 0)) → But p H H' → Q .non H'
def spAhead (C : Addr) : Sp := fun vs H Q _ => ∃ p l ws i, vs = [.ref p] ∧ RdAt C p l ws i H ∧ Q (.str (wd ws i)) H
def spTaken (C : Addr) : Sp := fun vs H Q _ => ∃ p l ws i, vs = [.ref p] ∧ RdAt C p l ws i H ∧ ∀ H', But p H H' → RdAt C p l ws (i + 1) H' → Q (.str (wd ws i)) H'
def spExpect (C N : Addr) : Sp := fun vs H Q E => ∃ p l ws i z, vs = [.ref p, .str z] ∧ RdAt C p l ws i H ∧ z.length ≤ 1000 ∧ (∀ w ∈ ws, w.length ≤ 1000) ∧
  (wd ws i = z → ∀ H', But p H H' → RdAt C p l ws (i + 1) H' → Q .non H') ∧ (¬ wd ws i = z → ∀ H', But p H H' → E (.ref N) none H')
def spName : Sp := fun vs H Q _ => ∃ z, vs = [.str z] ∧ z.length ≤ 1000 ∧ ∀ H', Same H H' → Q (.bl (nameM z)) H'
def spNum (N : Addr) : Sp := fun vs H Q E => ∃ z lo, vs = [.str z, .int lo] ∧ 0 ≤ lo ∧ lo ≤ 30 ∧ (∀ n, numM lo z = some n → Q (.int n) H) ∧ (numM lo z = none → E (.ref N) none H)
def spKind (N : Addr) : Sp := fun vs H Q E => ∃ c, vs = [.str (sg1 c)] ∧ (∀ k, kindM c = some k → Q (.str k.nm) H) ∧ (kindM c = none → E (.ref N) none H)
def spWords (N : Addr) : Sp := fun vs H Q E => ∃ z, vs = [.str z] ∧ z.length ≤ 1000 ∧ (∀ ws, lexM z = some ws → ∀ l H', Same H H' → H l = none → H' l = some (.lst (ws.map V.str)) → Q (.ref l) H') ∧ (lexM z = none → ∀ H', Same H H' → E (.ref N) none H')
/-- a reading of a piece from the word at i on -/
def RdOut (C N p l : Addr) (ws : List Str) (H : Hp) (Q : VK) (E : XK) : Option (T × Nat) → Prop
  | some (t, j) => ∀ v H', But p H H' → RdAt C p l ws j H' → TA H' v t → Q v H'
  | none => ∀ H', But p H H' → E (.ref N) none H'
structure WsOk (ws : List Str) : Prop where
  ws : ∀ w ∈ ws, w.length ≤ 1000
theorem WsOk.wd {ws : List Str} (h : WsOk ws) (i : Nat) : (wd ws i).length ≤ 1000 := by
  rcases Nat.lt_or_ge i ws.length with q | q
  · exact h.ws _ (List.mem_of_getElem? (wd_get q))
  · rw [wd_end (by omega)]; exact Nat.zero_le _
def spLevel (C N : Addr) (ks : List Kd) (f : List Str → Nat → Option (T × Nat)) (lv dp : Int) : Sp := fun vs H Q E => ∃ p l ws i, vs = [.ref p, .int lv, .int dp] ∧ RdAt C p l ws i H ∧ WsOk ws ∧ RdOut C N p l ws H Q E (levelM ws (f ws) ks i)
def spPiece (C N : Addr) (f : List Str → Nat → Option (T × Nat)) (dp : Int) : Sp := fun vs H Q E => ∃ p l ws i, vs = [.ref p, .int dp] ∧ RdAt C p l ws i H ∧ WsOk ws ∧ RdOut C N p l ws H Q E (f ws i)
def spRead (N : Addr) : Sp := fun vs H Q E => ∃ z, vs = [.str z] ∧ (z.length ≤ sizeLine) ∧ (∀ t, readM z = some t → ∀ v H', Same H H' → TA H' v t → Q v H') ∧ (readM z = none → ∀ H', Same H H' → E (.ref N) none H')
end Aw

namespace Aw
open PySem L2
/-! ### the law's own trees (lists in the place of tuples), dice, names -/
mutual
inductive LA (H : Hp) : V → T → Prop
  | num {a : Addr} {n : Int} : H a = some (.tup [.str "number", .int n]) → LA H (.ref a) (.num n)
  | name {a : Addr} {s : Str} : H a = some (.tup [.str "name", .str s]) → LA H (.ref a) (.name s)
  | gate {a : Addr} {s : Str} {b : Int} {v : V} {t : T} : H a = some (.tup [.str "gate", .str s, .int b, v]) → LA H v t → LA H (.ref a) (.gate s b t)
  | join {a p : Addr} {k : Kd} {vs : List V} {ts : List T} : H a = some (.tup [.str k.nm, .ref p]) → H p = some (.lst vs) → 0 < ts.length → LAs H vs ts → LA H (.ref a) (.join k ts)
inductive LAs (H : Hp) : List V → List T → Prop
  | nil : LAs H [] []
  | cons {v : V} {t : T} {vs : List V} {ts : List T} : LA H v t → LAs H vs ts → LAs H (v :: vs) (t :: ts)
end
theorem LA.isRef {H : Hp} {v : V} {t : T} (h : LA H v t) : ∃ a, v = .ref a := by
  cases h <;> exact ⟨_, rfl⟩
theorem LAs.headRef {H : Hp} {vs : List V} {ts : List T} (h : LAs H vs ts) (h0 : 0 < ts.length) : ∃ a r, vs = .ref a :: r := by
  cases h with
  | nil => exact absurd h0 (Nat.lt_irrefl 0)
  | cons a b =>
    obtain ⟨x, rfl⟩ := a.isRef
    exact ⟨x, _, rfl⟩
/-- tuples stay, and lists that begin with an object -/
def Keep (H H' : Hp) : Prop := (∀ b xs, H b = some (.tup xs) → H' b = some (.tup xs)) ∧ ∀ b a r, H b = some (.lst (.ref a :: r)) → H' b = some (.lst (.ref a :: r))
theorem Keep.of_same {H H' : Hp} (h : Same H H') : Keep H H' := ⟨fun b _ q => h b _ q, fun b _ _ q => h b _ q⟩
theorem Keep.of_but {H H' : Hp} {p : Addr} (h : But p H H') (hp : ∃ i r, H p = some (.lst (.int i :: r))) : Keep H H' := by
  obtain ⟨i, r, e⟩ := hp
  refine ⟨fun b xs q => h b _ q (fun z => ?_), fun b a r' q => h b _ q (fun z => ?_)⟩
  · subst z; rw [e] at q; cases q
  · subst z; rw [e] at q; cases q
mutual
theorem LA.mono {H H' : Hp} (h : Keep H H') : ∀ {v : V} {t : T}, LA H v t → LA H' v t
  | _, _, .num e => .num (h.1 _ _ e)
  | _, _, .name e => .name (h.1 _ _ e)
  | _, _, .gate e q => .gate (h.1 _ _ e) (LA.mono h q)
  | _, _, .join e e2 h0 q => .join (h.1 _ _ e) (by obtain ⟨a, r, rfl⟩ := q.headRef h0; exact h.2 _ _ _ e2) h0 (LAs.mono h q)
theorem LAs.mono {H H' : Hp} (h : Keep H H') : ∀ {v : List V} {t : List T}, LAs H v t → LAs H' v t
  | _, _, .nil => .nil
  | _, _, .cons a b => .cons (LA.mono h a) (LAs.mono h b)
end
theorem LAs.length {H : Hp} {vs : List V} {ts : List T} (h : LAs H vs ts) : vs.length = ts.length := by
  induction vs generalizing ts with
  | nil => cases h; rfl
  | cons v r ih => cases h with | cons a b => rw [List.length_cons, List.length_cons, ih b]
theorem LAs.snoc {H : Hp} {v : V} {t : T} (h1 : LA H v t) : ∀ {vs : List V} {ts : List T}, LAs H vs ts → LAs H (vs ++ [v]) (ts ++ [t])
  | _, _, .nil => .cons h1 .nil
  | _, _, .cons a b => .cons a (LAs.snoc h1 b)
theorem LAs.get {H : Hp} : ∀ {vs : List V} {ts : List T} {i : Nat} {v : V}, LAs H vs ts → vs[i]? = some v → ∃ t, ts[i]? = some t ∧ LA H v t
  | _, _, i, v, .nil, h => by simp at h
  | _, _, 0, v, .cons a b, h => ⟨_, rfl, by have e := Option.some.inj h; exact e ▸ a⟩
  | _, _, i + 1, v, .cons a b, h => by
    obtain ⟨t, h1, h2⟩ := LAs.get b (i := i) (v := v) (by simpa using h)
    exact ⟨t, by simpa using h1, h2⟩
/-- what a drawn tree keeps: at most d storeys -/
def TOk (P : Str → Prop) : Nat → T → Prop
  | _, .num n => 0 ≤ n ∧ n ≤ 30
  | _, .name s => P s
  | 0, .gate _ _ _ => False
  | 0, .join _ _ => False
  | d + 1, .gate s b t => P s ∧ 1 ≤ b ∧ b ≤ 30 ∧ TOk P d t
  | d + 1, .join _ ts => 2 ≤ ts.length ∧ ts.length ≤ 3 ∧ ∀ t ∈ ts, TOk P d t
theorem TOk.num {P : Str → Prop} {d : Nat} {n : Int} (h : TOk P d (.num n)) : 0 ≤ n ∧ n ≤ 30 := by cases d <;> exact h
theorem TOk.name {P : Str → Prop} {d : Nat} {s : Str} (h : TOk P d (.name s)) : P s := by cases d <;> exact h
theorem TOk.mkNum {P : Str → Prop} {d : Nat} {n : Int} (h : 0 ≤ n ∧ n ≤ 30) : TOk P d (.num n) := by cases d <;> exact h
theorem TOk.mkName {P : Str → Prop} {d : Nat} {s : Str} (h : P s) : TOk P d (.name s) := by cases d <;> exact h
theorem TOk.imp {P P' : Str → Prop} (hp : ∀ s, P s → P' s) : ∀ (d : Nat) {t : T}, TOk P d t → TOk P' d t
  | 0, .num _, h => h
  | 0, .name _, h => hp _ h
  | 0, .gate _ _ _, h => h
  | 0, .join _ _, h => h
  | d + 1, .num _, h => h
  | d + 1, .name _, h => hp _ h
  | d + 1, .gate _ _ _, h => ⟨hp _ h.1, h.2.1, h.2.2.1, TOk.imp hp d h.2.2.2⟩
  | d + 1, .join _ _, h => ⟨h.1, h.2.1, fun t ht => TOk.imp hp d (h.2.2 t ht)⟩
def NameOk (s : Str) : Prop := nameM s = true
def DiceAt (H : Hp) (d : Addr) : Prop := ∃ x y : Int, H d = some (.lst [.int x, .int y]) ∧ 0 ≤ x ∧ x < 2147483647 ∧ 0 ≤ y
theorem DiceAt.mono {H H' : Hp} {d : Addr} (h : DiceAt H d) (s : Same H H') : DiceAt H' d := by
  obtain ⟨x, y, e, q⟩ := h
  exact ⟨x, y, s _ _ e, q⟩
theorem DiceAt.keep {H H' : Hp} {d : Addr} (h : DiceAt H d) (b : But d H H') : Keep H H' := by
  obtain ⟨x, y, e, q⟩ := h
  exact .of_but b ⟨x, _, e⟩
/-- what is new in H' -/
def fresh (H H' : Hp) : Hp := fun b => match H b with
  | none => H' b
  | some _ => none
def hide (D : Addr) (G : Hp) : Hp := fun b => if b = D then none else G b
theorem fresh_at {H H' : Hp} {p : Addr} {o : HO} (h : H p = none) (e : H' p = some o) : fresh H H' p = some o := by
  unfold fresh
  rw [h]
  exact e
theorem fresh_inv {H H' : Hp} {p : Addr} {o : HO} (h : fresh H H' p = some o) : H p = none ∧ H' p = some o := by
  unfold fresh at h
  cases e : H p with
  | none => rw [e] at h; exact ⟨rfl, h⟩
  | some u => rw [e] at h; cases h
theorem fresh_sub {H H' : Hp} : Same (fresh H H') H' := fun b o h => (fresh_inv h).2
theorem free_of {H H' : Hp} {dd p : Addr} (D : DiceAt H' dd) (b : But dd H H') (h : H' p = none) : H p = none := by
  cases e : H p with
  | none => rfl
  | some o =>
    by_cases c : p = dd
    · subst c
      obtain ⟨x, y, e2, _⟩ := D
      rw [h] at e2
      cases e2
    · have := b p o e c
      rw [h] at this
      cases this
/-- what a callee made new is new for the caller too -/
theorem fresh_step {H H1 H2 H3 : Hp} {dd : Addr} (D : DiceAt H1 dd) (b : But dd H H1) (s : Same H2 H3) : Same (fresh H1 H2) (fresh H H3) := fun p o h => by
  obtain ⟨h1, h2⟩ := fresh_inv h
  exact fresh_at (free_of D b h1) (s p o h2)
/-! ### how a tree is written -/
def Kd.rank : Kd → Int
  | .most => 1
  | .least => 2
  | .sum => 3
def sp1 : Str := " "
def Kd.sep (k : Kd) : Str := sp1 ++ k.sg ++ sp1
mutual
def wr (firm : Int) : T → Str
  | .num n => tx n
  | .name s => s
  | .gate s b t => "[" ++ s ++ " " ++ tx b ++ "] " ++ wr 4 t
  | .join k ts => if k.rank < firm then "(" ++ wrs k.sep (k.rank + 1) ts ++ ")" else wrs k.sep (k.rank + 1) ts
def wrs (sep : Str) (firm : Int) : List T → Str
  | [] => Str.empty
  | [t] => wr firm t
  | t :: r => wr firm t ++ sep ++ wrs sep firm r
end
theorem app_assoc (a b c : Str) : a ++ b ++ c = a ++ (b ++ c) := by
  show (⟨(a.cps ++ b.cps) ++ c.cps⟩ : Str) = ⟨a.cps ++ (b.cps ++ c.cps)⟩
  rw [Array.append_assoc]
theorem len_app' (a b : Str) : (a ++ b).length = a.length + b.length := by
  show (a.cps ++ b.cps).size = _
  rw [Array.size_append] <;> rfl
theorem wrs_one (sep : Str) (f : Int) (t : T) : wrs sep f [t] = wr f t := by unfold wrs; rfl
theorem wrs_two (sep : Str) (f : Int) (t u : T) (r : List T) : wrs sep f (t :: u :: r) = wr f t ++ sep ++ wrs sep f (u :: r) := by conv => lhs; unfold wrs
theorem wrs_snoc (sep : Str) (f : Int) (t : T) : ∀ {ts : List T}, ts ≠ [] → wrs sep f (ts ++ [t]) = wrs sep f ts ++ sep ++ wr f t
  | [], h => absurd rfl h
  | [u], _ => by
    show wrs sep f [u, t] = _
    rw [wrs_two, wrs_one, wrs_one]
  | u :: v :: r, _ => by
    show wrs sep f (u :: v :: (r ++ [t])) = _
    rw [wrs_two, wrs_two]
    have ih := wrs_snoc sep f t (ts := v :: r) (by intro z; cases z)
    rw [show v :: (r ++ [t]) = (v :: r) ++ [t] from rfl, ih, app_assoc, app_assoc, app_assoc, app_assoc, app_assoc]
theorem tx_len {n : Int} (h : 0 ≤ n ∧ n ≤ 30) : (tx n).length ≤ 2 := by
  have q : ∀ k : Nat, k < 31 → (tx (k : Int)).length ≤ 2 := by decide +kernel
  have e := q n.toNat (by omega)
  rwa [show ((n.toNat : Nat) : Int) = n by omega] at e
def LB : Nat → Nat
  | 0 => 6
  | d + 1 => 3 * LB d + 20
theorem LB_six : ∀ d, 6 ≤ LB d
  | 0 => Nat.le_refl 6
  | d + 1 => by have := LB_six d; show 6 ≤ 3 * LB d + 20; omega
theorem sep_len (k : Kd) : k.sep.length = 3 := by cases k <;> decide +kernel
theorem wrs_len {sep : Str} {f : Int} {B : Nat} (hs : sep.length = 3) : ∀ {ts : List T}, ts ≠ [] → (∀ t ∈ ts, (wr f t).length ≤ B) → (wrs sep f ts).length + 3 ≤ ts.length * (B + 3)
  | [], h, _ => absurd rfl h
  | [u], _, h => by
    rw [wrs_one]
    have := h u (List.mem_singleton.mpr rfl)
    show _ ≤ 1 * (B + 3)
    omega
  | u :: v :: r, _, h => by
    rw [wrs_two, len_app', len_app', hs]
    have ih := wrs_len hs (ts := v :: r) (f := f) (by intro z; cases z) fun t ht => h t (List.mem_cons_of_mem _ ht)
    have h1 := h u List.mem_cons_self
    have e : (u :: v :: r).length * (B + 3) = (v :: r).length * (B + 3) + (B + 3) := by
      rw [List.length_cons (a := u), Nat.add_mul, Nat.one_mul]
    omega
theorem wr_len {P : Str → Prop} (hP : ∀ s, P s → s.length ≤ 6) : ∀ (d : Nat) {t : T} (f : Int), TOk P d t → (wr f t).length ≤ LB d
  | d, .num n, f, h => by
    have := tx_len h.num
    have := LB_six d
    unfold wr
    omega
  | d, .name s, f, h => by
    have := hP _ h.name
    have := LB_six d
    unfold wr
    omega
  | 0, .gate _ _ _, _, h => h.elim
  | 0, .join _ _, _, h => h.elim
  | d + 1, .gate s b t, f, h => by
    obtain ⟨h1, h2, h3, h4⟩ := h
    have e1 := hP _ h1
    have e2 := tx_len (n := b) ⟨by omega, h3⟩
    have e3 := wr_len hP d 4 h4
    unfold wr
    rw [len_app', len_app', len_app', len_app', len_app']
    have c1 : ("[" : Str).length = 1 := by decide +kernel
    have c2 : (" " : Str).length = 1 := by decide +kernel
    have c3 : ("] " : Str).length = 2 := by decide +kernel
    show _ ≤ 3 * LB d + 20
    omega
  | d + 1, .join k ts, f, h => by
    obtain ⟨h1, h2, h3⟩ := h
    have hne : ts ≠ [] := by intro z; subst z; simp at h1
    have e := wrs_len (f := k.rank + 1) (B := LB d) (sep_len k) hne fun t ht => wr_len hP d _ (h3 t ht)
    have e2 : ts.length * (LB d + 3) ≤ 3 * (LB d + 3) := Nat.mul_le_mul_right _ h2
    have c1 : ("(" : Str).length = 1 := by decide +kernel
    have c2 : (")" : Str).length = 1 := by decide +kernel
    unfold wr
    show _ ≤ 3 * LB d + 20
    split
    · rw [len_app', len_app']; omega
    · omega
end Aw

namespace Aw
open PySem L2
/-! ### walks in general: a comprehension's turns over whatever stands still -/
theorem walk_gen {J : It} {n : Nat} {G : Hp → Prop} {Y : Nat → Hp → V → Hp → Prop} (w : Walk J n G Y) {B : V → Hp → (Hp → Prop) → Prop} {Qd : Hp → Prop} {Hs : Hp} (Pv : Nat → Hp → Prop) (h0 : Pv 0 Hs) (hG : ∀ i H, i ≤ n → Pv i H → G H)
    (hs : ∀ i x H H', i < n → Pv i H → Y i H x H' → B x H' (Pv (i + 1))) (hd : ∀ H, Pv n H → Qd H) :
    ∃ W : Nat → Nat → Hp → Prop, (∃ m, W 0 m Hs) ∧ ∀ i m H, W i m H → (J.stop i H ∧ Qd H) ∨ (J.go i H ∧ ∃ Nx : Hp → Prop, (∀ H', Nx H' → ∃ m', m' < m ∧ W (i + 1) m' H') ∧ ∀ x H', J.yld i H x H' → B x H' Nx) := by
  refine ⟨fun i m H => m = n - i ∧ i ≤ n ∧ Pv i H, ⟨n, by simp, Nat.zero_le _, h0⟩, ?_⟩
  rintro i m H ⟨rfl, hi, p⟩
  have q := hG i H hi p
  by_cases hlt : i < n
  · exact .inr ⟨w.goes i H hlt q, Pv (i + 1), fun H' p' => ⟨n - (i + 1), by omega, rfl, hlt, p'⟩, fun x H' y => hs i x H H' hlt p (w.yields i H x H' hlt q y)⟩
  · have e : i = n := by omega
    subst e
    exact .inl ⟨w.stops H q, hd H p⟩
/-! ### the names that stand in a tree -/
mutual
def named : T → List Str
  | .num _ => []
  | .name s => [s]
  | .gate s _ t => s :: named t
  | .join _ ts => nameds ts
def nameds : List T → List Str
  | [] => []
  | t :: r => named t ++ nameds r
end
theorem nameds_take {ts : List T} {i : Nat} {t : T} (h : ts[i]? = some t) : nameds (ts.take (i + 1)) = nameds (ts.take i) ++ named t := by
  rw [take_more h]
  generalize ts.take i = l
  induction l with
  | nil =>
    show named t ++ nameds [] = [] ++ named t
    simp [nameds]
  | cons u r ih =>
    show named u ++ nameds (r ++ [t]) = (named u ++ nameds r) ++ named t
    rw [ih, List.append_assoc]
def NB : Nat → Nat
  | 0 => 1
  | d + 1 => 3 * NB d + 1
theorem NB_one : ∀ d, 1 ≤ NB d
  | 0 => Nat.le_refl 1
  | d + 1 => by show 1 ≤ 3 * NB d + 1; omega
theorem nameds_len {B : Nat} : ∀ {ts : List T}, (∀ t ∈ ts, (named t).length ≤ B) → (nameds ts).length ≤ ts.length * B
  | [], _ => Nat.zero_le _
  | t :: r, h => by
    have ih := nameds_len (ts := r) fun u hu => h u (List.mem_cons_of_mem _ hu)
    have h1 := h t List.mem_cons_self
    show (named t ++ nameds r).length ≤ _
    rw [List.length_append, List.length_cons, Nat.add_mul, Nat.one_mul]
    omega
theorem named_len {P : Str → Prop} : ∀ (d : Nat) {t : T}, TOk P d t → (named t).length ≤ NB d
  | d, .num _, _ => Nat.zero_le _
  | d, .name _, _ => NB_one d
  | 0, .gate _ _ _, h => h.elim
  | 0, .join _ _, h => h.elim
  | d + 1, .gate s n t, h => by
    have e := named_len d h.2.2.2
    show (named t).length + 1 ≤ 3 * NB d + 1
    omega
  | d + 1, .join k ts, h => by
    obtain ⟨h1, h2, h3⟩ := h
    have e := nameds_len (ts := ts) fun t ht => named_len d (h3 t ht)
    have e2 : ts.length * NB d ≤ 3 * NB d := Nat.mul_le_mul_right _ h2
    show (nameds ts).length ≤ 3 * NB d + 1
    omega
theorem NB_le : ∀ {d : Nat}, d ≤ 2 → NB d ≤ 13
  | 0, _ => by decide
  | 1, _ => by decide
  | 2, _ => by decide
  | _ + 3, h => by omega
/-- each once, in the order in which they stand first -/
def addN (acc : List Str) (s : Str) : List Str := if s ∈ acc then acc else acc ++ [s]
def once (l : List Str) : List Str := l.foldl addN []
theorem once_take {l : List Str} {i : Nat} {s : Str} (h : l[i]? = some s) : once (l.take (i + 1)) = addN (once (l.take i)) s := by
  unfold once
  rw [take_more h, List.foldl_append]
  rfl
theorem addN_len (acc : List Str) (s : Str) : (addN acc s).length ≤ acc.length + 1 := by
  unfold addN
  split
  · omega
  · rw [List.length_append, List.length_singleton]; omega
theorem once_len (l : List Str) : (once l).length ≤ l.length := by
  have g : ∀ (l acc : List Str), (l.foldl addN acc).length ≤ acc.length + l.length := by
    intro l
    induction l with
    | nil => intro acc; exact Nat.le_refl _
    | cons s r ih =>
      intro acc
      have h1 := ih (addN acc s)
      have h2 := addN_len acc s
      rw [List.foldl_cons, List.length_cons]
      omega
  have := g l []
  simpa [once] using this
/-- the dict of the names, each with True -/
def nkvs (l : List Str) : List (Key × V) := l.map fun s => (Sum.inr s, .bl true)
theorem nkvs_put (l : List Str) (s : Str) : putK (nkvs l) (Sum.inr s) (.bl true) = nkvs (addN l s) := by
  unfold putK
  have e : ((nkvs l).any fun kv => decide (kv.1 = Sum.inr s)) = decide (s ∈ l) := by
    unfold nkvs
    rw [List.any_map]
    induction l with
    | nil => rfl
    | cons a r ih =>
      rw [List.any_cons, ih]
      show (decide ((Sum.inr a : Key) = Sum.inr s) || decide (s ∈ r)) = decide (s ∈ a :: r)
      by_cases c : a = s
      · subst c; simp
      · have c2 : ¬ (Sum.inr a : Key) = Sum.inr s := by intro z; exact c (Sum.inr.inj z)
        rw [decide_eq_false c2, Bool.false_or]
        have : (s ∈ a :: r) ↔ s ∈ r := by
          rw [List.mem_cons]
          exact ⟨fun h => h.elim (fun z => absurd z.symm c) id, .inr⟩
        exact decide_eq_decide.mpr this.symm
  rw [e]
  unfold addN
  by_cases c : s ∈ l
  · rw [decide_eq_true c, if_pos rfl, if_pos c]
    have : (nkvs l).map (fun kv => if kv.1 = (Sum.inr s : Key) then (kv.1, V.bl true) else kv) = nkvs l := by
      unfold nkvs
      rw [List.map_map]
      apply List.map_congr_left
      intro a _
      show (if (Sum.inr a : Key) = Sum.inr s then ((Sum.inr a : Key), V.bl true) else ((Sum.inr a : Key), V.bl true)) = _
      split <;> rfl
    exact this
  · rw [decide_eq_false c, if_neg Bool.false_ne_true, if_neg c]
    unfold nkvs
    rw [List.map_append]
    rfl
theorem nkvs_keys (l : List Str) : (nkvs l).map (fun kv => kV kv.1) = l.map V.str := by
  unfold nkvs
  rw [List.map_map]
  rfl
theorem dp_strs {K : PySem.W.Frag} {H : Hp} : ∀ (l : List Str), DpAll K H (l.map V.str) (l.map PyData.str)
  | [] => .nil
  | s :: r => .cons (.str s) (dp_strs r)
theorem in_strs (s : Str) (l : List Str) : inV (.str s) (l.map V.str) = decide (s ∈ l) := by
  unfold inV
  rw [List.any_map]
  induction l with
  | nil => rfl
  | cons a r ih =>
    rw [List.any_cons, ih]
    show ((a == s) || decide (s ∈ r)) = decide (s ∈ a :: r)
    by_cases c : a = s
    · subst c; simp
    · have e : (a == s) = false := beq_eq_false_iff_ne.mpr c
      rw [e, Bool.false_or]
      have : (s ∈ a :: r) ↔ s ∈ r := by
        rw [List.mem_cons]
        exact ⟨fun h => h.elim (fun z => absurd z.symm c) id, .inr⟩
      exact decide_eq_decide.mpr this.symm
theorem flat_strs (l : List Str) : (l.map V.str).all flatV = true := by
  rw [List.all_map, List.all_eq_true]
  intro _ _
  rfl
theorem strOk_name {s : Str} (h : NameOk s) : PyData.strOk s = true := by
  unfold NameOk nameM at h
  have q := (Bool.and_eq_true_iff.mp h).2
  have q2 : ∀ c ∈ LET, c < 0x110000 := by decide +kernel
  unfold PyData.strOk
  rw [← Array.all_toList, List.all_eq_true]
  exact fun c hc => decide_eq_true (q2 c (of_decide_eq_true (List.all_eq_true.mp q c hc)))
theorem can_strs : ∀ (l : List Str), (∀ s ∈ l, NameOk s) → PyData.canLayAll0 (l.map PyData.str) = true
  | [], _ => by simp [PyData.canLayAll0]
  | s :: r, h => by
    show (PyData.canLay0 (.str s) && PyData.canLayAll0 (r.map PyData.str)) = true
    rw [can_strs r fun u hu => h u (List.mem_cons_of_mem _ hu), Bool.and_true]
    unfold PyData.canLay0
    exact strOk_name (h s List.mem_cons_self)
theorem depth_strs : ∀ (l : List Str), PyData.depthAll (l.map PyData.str) ≤ 1
  | [] => by show PyData.depthAll [] ≤ 1; unfold PyData.depthAll; omega
  | s :: r => by
    have ih := depth_strs r
    show max (PyData.depth (.str s)) (PyData.depthAll (r.map PyData.str)) ≤ 1
    have e : PyData.depth (.str s) ≤ 1 := by unfold PyData.depth; omega
    omega
theorem shaped_strs {l : List Str} (h : ∀ s ∈ l, NameOk s) : SeqAt.shaped (.list (l.map PyData.str)) = true := by
  unfold SeqAt.shaped
  have e1 : PyData.canLay0 (.list (l.map PyData.str)) = true := by unfold PyData.canLay0; exact can_strs l h
  have e2 : PyData.depth (.list (l.map PyData.str)) ≤ 64 := by
    have := depth_strs l
    unfold PyData.depth
    omega
  rw [e1, decide_eq_true e2]
  rfl
theorem eqv_strs {l : List Str} (h : ∀ s ∈ l, NameOk s) : PyData.eqv (.list (l.map PyData.str)) (.list (l.map PyData.str)) = true := by
  refine SeqAt.eqv_refl _ ?_
  unfold PyData.canLay0
  exact can_strs l h
mutual
theorem named_ok {P : Str → Prop} : ∀ (d : Nat) {t : T}, TOk P d t → ∀ s ∈ named t, P s
  | d, .num _, _, s, hs => by cases hs
  | d, .name z, h, s, hs => by rw [List.mem_singleton.mp hs]; exact h.name
  | 0, .gate _ _ _, h, _, _ => h.elim
  | 0, .join _ _, h, _, _ => h.elim
  | d + 1, .gate z n t, h, s, hs => by
    rcases List.mem_cons.mp hs with q | q
    · rw [q]; exact h.1
    · exact named_ok d h.2.2.2 s q
  | d + 1, .join k ts, h, s, hs => nameds_ok d h.2.2 s hs
theorem nameds_ok {P : Str → Prop} : ∀ (d : Nat) {ts : List T}, (∀ t ∈ ts, TOk P d t) → ∀ s ∈ nameds ts, P s
  | d, [], _, s, hs => by cases hs
  | d, t :: r, h, s, hs => by
    rcases List.mem_append.mp (show s ∈ named t ++ nameds r from hs) with q | q
    · exact named_ok d (h t List.mem_cons_self) s q
    · exact nameds_ok d (fun u hu => h u (List.mem_cons_of_mem _ hu)) s q
end
theorem addN_mem {acc : List Str} {s x : Str} (h : x ∈ addN acc s) : x ∈ acc ∨ x = s := by
  unfold addN at h
  split at h
  · exact .inl h
  · rcases List.mem_append.mp h with q | q
    · exact .inl q
    · exact .inr (List.mem_singleton.mp q)
theorem once_mem {l : List Str} {x : Str} (h : x ∈ once l) : x ∈ l := by
  have g : ∀ (l acc : List Str), x ∈ l.foldl addN acc → x ∈ acc ∨ x ∈ l := by
    intro l
    induction l with
    | nil => intro acc h; exact .inl h
    | cons s r ih =>
      intro acc h
      rcases ih _ h with q | q
      · rcases addN_mem q with z | z
        · exact .inl z
        · exact .inr (z ▸ List.mem_cons_self)
      · exact .inr (List.mem_cons_of_mem _ q)
  rcases g l [] h with q | q
  · cases q
  · exact q
end Aw

namespace Aw
open PySem L2
/-! ### dicts by names, lists: what stands for what -/
section
variable {α : Type}
abbrev AL (α : Type) := List (Str × α)
def alk : AL α → Str → Option α
  | [], _ => none
  | p :: r, s => if p.1 = s then some p.2 else alk r s
def akeys (m : AL α) : List Str := m.map (·.1)
def aput (m : AL α) (s : Str) (x : α) : AL α := if s ∈ akeys m then m.map (fun p => if p.1 = s then (p.1, x) else p) else m ++ [(s, x)]
def adel (m : AL α) (s : Str) : AL α := m.filter fun p => decide (p.1 ≠ s)
theorem alk_pos {p : Str × α} {r : AL α} {s : Str} (e : p.1 = s) : alk (p :: r) s = some p.2 := by unfold alk; rw [if_pos e]
theorem alk_neg {p : Str × α} {r : AL α} {s : Str} (e : ¬ p.1 = s) : alk (p :: r) s = alk r s := by
  show (if p.1 = s then some p.2 else alk r s) = alk r s
  rw [if_neg e]
theorem alk_none {m : AL α} {s : Str} : alk m s = none ↔ s ∉ akeys m := by
  induction m with
  | nil => exact ⟨fun _ h => (by cases h), fun _ => rfl⟩
  | cons p r ih =>
    show _ ↔ s ∉ p.1 :: akeys r
    by_cases e : p.1 = s
    · rw [alk_pos e]
      exact ⟨fun h => (by cases h), fun h => absurd (by rw [e]; exact List.mem_cons_self) h⟩
    · rw [alk_neg e, ih, List.mem_cons]
      exact ⟨fun h z => z.elim (fun q => e q.symm) h, fun h z => h (.inr z)⟩
theorem alk_some {m : AL α} {s : Str} : (alk m s).isSome = decide (s ∈ akeys m) := by
  cases e : alk m s with
  | none => rw [decide_eq_false (alk_none.mp e)]; rfl
  | some x =>
    rw [decide_eq_true]
    · rfl
    · exact Decidable.by_contra fun h => by rw [alk_none.mpr h] at e; cases e
theorem alk_mem {m : AL α} {s : Str} {x : α} (h : alk m s = some x) : (s, x) ∈ m := by
  induction m with
  | nil => cases h
  | cons q r ih =>
    by_cases e : q.1 = s
    · rw [alk_pos e] at h
      cases h
      subst e
      exact List.mem_cons_self
    · rw [alk_neg e] at h
      exact List.mem_cons_of_mem _ (ih h)
theorem mem_alk {m : AL α} (nd : (akeys m).Nodup) {p : Str × α} (h : p ∈ m) : alk m p.1 = some p.2 := by
  induction m with
  | nil => cases h
  | cons q r ih =>
    have nd' : (q.1 :: akeys r).Nodup := nd
    rw [List.nodup_cons] at nd'
    rcases List.mem_cons.mp h with e | e
    · rw [e]; exact alk_pos rfl
    · rw [alk_neg (fun z => nd'.1 (by rw [z]; exact List.mem_map_of_mem e))]
      exact ih nd'.2 e
theorem akeys_put (m : AL α) (s : Str) (x : α) : akeys (aput m s x) = if s ∈ akeys m then akeys m else akeys m ++ [s] := by
  unfold aput
  split
  · unfold akeys
    rw [List.map_map]
    refine List.map_congr_left fun p _ => ?_
    show (if p.1 = s then (p.1, x) else p).1 = p.1
    split <;> rfl
  · unfold akeys
    rw [List.map_append]
    rfl
theorem mem_akeys_put {m : AL α} {s z : Str} {x : α} : z ∈ akeys (aput m s x) ↔ z ∈ akeys m ∨ z = s := by
  rw [akeys_put]
  split
  · next c => exact ⟨.inl, fun h => h.elim id fun e => by rw [e]; exact c⟩
  · rw [List.mem_append, List.mem_singleton]
theorem anodup_put {m : AL α} (h : (akeys m).Nodup) (s : Str) (x : α) : (akeys (aput m s x)).Nodup := by
  rw [akeys_put]
  split
  · exact h
  · next c =>
    rw [List.nodup_append]
    exact ⟨h, by simp, fun a ha b hb z => c (by rw [List.mem_singleton.mp hb] at z; rw [← z]; exact ha)⟩
theorem akeys_del (m : AL α) (s : Str) : akeys (adel m s) = (akeys m).filter fun z => decide (z ≠ s) := by
  unfold akeys adel
  rw [List.filter_map]
  rfl
theorem anodup_del {m : AL α} (h : (akeys m).Nodup) (s : Str) : (akeys (adel m s)).Nodup := by
  rw [akeys_del]
  exact h.filter _
theorem mem_akeys_del {m : AL α} {s z : Str} : z ∈ akeys (adel m s) ↔ z ∈ akeys m ∧ z ≠ s := by
  rw [akeys_del, List.mem_filter, decide_eq_true_iff]
theorem alk_put (m : AL α) (s z : Str) (x : α) : alk (aput m s x) z = if z = s then some x else alk m z := by
  unfold aput
  by_cases c : s ∈ akeys m
  · rw [if_pos c]
    induction m with
    | nil => cases c
    | cons p r ih =>
      rw [List.map_cons]
      by_cases e : p.1 = s
      · rw [if_pos e]
        by_cases e2 : z = s
        · rw [if_pos e2, alk_pos (by rw [e, e2])]
        · rw [if_neg e2, alk_neg (p := (p.1, x)) (fun q => e2 (q.symm.trans e)), alk_neg (p := p) (fun q => e2 (q.symm.trans e))]
          by_cases c2 : s ∈ akeys r
          · rw [ih c2, if_neg e2]
          · rw [show r.map (fun p => if p.1 = s then (p.1, x) else p) = r from (List.map_congr_left fun q hq => if_neg fun w => c2 (by rw [← w]; exact List.mem_map_of_mem hq)).trans (List.map_id r)]
      · rw [if_neg e]
        have c2 : s ∈ akeys r := (List.mem_cons.mp c).resolve_left fun w => e w.symm
        by_cases e3 : p.1 = z
        · rw [alk_pos e3, alk_pos e3, if_neg (fun w => e (e3.trans w))]
        · rw [alk_neg e3, alk_neg e3, ih c2]
  · rw [if_neg c]
    induction m with
    | nil =>
      by_cases e2 : z = s
      · rw [if_pos e2]; exact alk_pos e2.symm
      · rw [if_neg e2]; exact alk_neg (fun w => e2 w.symm)
    | cons p r ih =>
      have c' : s ∉ p.1 :: akeys r := c
      rw [List.mem_cons, not_or] at c'
      rw [List.cons_append]
      by_cases e3 : p.1 = z
      · rw [alk_pos e3, alk_pos e3, if_neg (fun w => c'.1 (w.symm.trans e3.symm))]
      · rw [alk_neg e3, alk_neg e3, ih c'.2]
theorem alk_del (m : AL α) (s z : Str) : alk (adel m s) z = if z = s then none else alk m z := by
  induction m with
  | nil =>
    show none = _
    split <;> rfl
  | cons p r ih =>
    unfold adel at ih ⊢
    by_cases e : p.1 = s
    · rw [List.filter_cons_of_neg (by simp [e]), ih]
      by_cases e2 : z = s
      · rw [if_pos e2, if_pos e2]
      · rw [if_neg e2, if_neg e2, alk_neg (fun w => e2 (w.symm.trans e))]
    · rw [List.filter_cons_of_pos (by simp [e])]
      by_cases e3 : p.1 = z
      · rw [alk_pos e3, alk_pos e3, if_neg (fun w => e (e3.trans w))]
      · rw [alk_neg e3, alk_neg e3, ih]
theorem mem_aput {m : AL α} {s : Str} {x : α} {p : Str × α} (h : p ∈ aput m s x) : p ∈ m ∨ p = (s, x) := by
  unfold aput at h
  split at h
  · obtain ⟨q, hq, e⟩ := List.mem_map.mp h
    split at e
    · next c => rw [← e, c]; exact .inr rfl
    · rw [← e]; exact .inl hq
  · rcases List.mem_append.mp h with z | z
    · exact .inl z
    · exact .inr (List.mem_singleton.mp z)
theorem len_aput (m : AL α) (s : Str) (x : α) : (aput m s x).length = if s ∈ akeys m then m.length else m.length + 1 := by
  unfold aput
  split
  · rw [List.length_map]
  · rw [List.length_append]; rfl
/-! ### the relation -/
def DR (R : V → α → Prop) (kvs : List (Key × V)) (m : AL α) : Prop := Paired (fun (kv : Key × V) (p : Str × α) => kv.1 = Sum.inr p.1 ∧ R kv.2 p.2) kvs m
def LR (R : V → α → Prop) (vs : List V) (m : List α) : Prop := Paired R vs m
variable {R R' : V → α → Prop}
theorem DR.len {kvs : List (Key × V)} {m : AL α} (h : DR R kvs m) : kvs.length = m.length := Paired.length h
theorem LR.len {vs : List V} {m : List α} (h : LR R vs m) : vs.length = m.length := Paired.length h
theorem DR.keys {kvs : List (Key × V)} {m : AL α} (h : DR R kvs m) : kvs.map (·.1) = (akeys m).map Sum.inr := by
  unfold DR at h
  induction h with
  | nil => rfl
  | cons a _ ih =>
    rw [List.map_cons, ih, a.1]
    rfl
theorem DR.imp {kvs : List (Key × V)} {m : AL α} (h : DR R kvs m) (i : ∀ p ∈ m, ∀ v, R v p.2 → R' v p.2) : DR R' kvs m := by
  unfold DR at h ⊢
  induction h with
  | nil => exact .nil
  | cons a _ ih => exact .cons ⟨a.1, i _ List.mem_cons_self _ a.2⟩ (ih fun p hp => i p (List.mem_cons_of_mem _ hp))
theorem LR.imp {vs : List V} {m : List α} (h : LR R vs m) (i : ∀ p ∈ m, ∀ v, R v p → R' v p) : LR R' vs m := by
  unfold LR at h ⊢
  induction h with
  | nil => exact .nil
  | cons a _ ih => exact .cons (i _ List.mem_cons_self _ a) (ih fun p hp => i p (List.mem_cons_of_mem _ hp))
theorem LR.snoc {vs : List V} {m : List α} {v : V} {x : α} (h : LR R vs m) (r : R v x) : LR R (vs ++ [v]) (m ++ [x]) := by
  unfold LR at h ⊢
  induction h with
  | nil => exact .cons r .nil
  | cons a _ ih => exact .cons a ih
theorem LR.append {vs ws : List V} {m n : List α} (h : LR R vs m) (k : LR R ws n) : LR R (vs ++ ws) (m ++ n) := by
  unfold LR at h k ⊢
  induction h with
  | nil => exact k
  | cons a _ ih => exact .cons a ih
theorem LR.get {vs : List V} {m : List α} (h : LR R vs m) : ∀ {i : Nat} {v : V}, vs[i]? = some v → ∃ x, m[i]? = some x ∧ R v x := by
  unfold LR at h
  induction h with
  | nil => intro i v e; simp at e
  | cons a _ ih =>
    intro i v e
    cases i with
    | zero =>
      have q : _ = v := Option.some.inj e
      exact ⟨_, rfl, q ▸ a⟩
    | succ i =>
      obtain ⟨x, h1, h2⟩ := ih (i := i) (v := v) (by simpa using e)
      exact ⟨x, by simpa using h1, h2⟩
theorem DR.get {kvs : List (Key × V)} {m : AL α} (h : DR R kvs m) : ∀ {i : Nat} {k : Key} {v : V}, kvs[i]? = some (k, v) → ∃ s x, m[i]? = some (s, x) ∧ k = Sum.inr s ∧ R v x := by
  unfold DR at h
  induction h with
  | nil => intro i k v e; simp at e
  | cons a _ ih =>
    intro i k v e
    cases i with
    | zero =>
      have q := Option.some.inj e
      subst q
      exact ⟨_, _, rfl, a.1, a.2⟩
    | succ i =>
      obtain ⟨s, x, h1, h2, h3⟩ := ih (i := i) (k := k) (v := v) (by simpa using e)
      exact ⟨s, x, by simpa using h1, h2, h3⟩
theorem DR.val {kvs : List (Key × V)} {m : AL α} (h : DR R kvs m) (s : Str) : (valV kvs (Sum.inr s) = none ∧ alk m s = none) ∨ ∃ v x, valV kvs (Sum.inr s) = some v ∧ alk m s = some x ∧ R v x := by
  unfold DR at h
  induction h with
  | nil => exact .inl ⟨rfl, rfl⟩
  | @cons kv p _ _ a _ ih =>
    by_cases e : p.1 = s
    · refine .inr ⟨kv.2, p.2, valV_pos (by rw [a.1, e]), alk_pos e, a.2⟩
    · rw [valV_neg (fun z => e (Sum.inr.inj (a.1.symm.trans z))), alk_neg e]
      exact ih
theorem DR.some {kvs : List (Key × V)} {m : AL α} (h : DR R kvs m) {s : Str} {x : α} (e : alk m s = some x) : ∃ v, valV kvs (Sum.inr s) = some v ∧ R v x := by
  rcases h.val s with ⟨_, q⟩ | ⟨v, y, h1, h2, h3⟩
  · rw [e] at q; cases q
  · rw [e] at h2; cases h2; exact ⟨v, h1, h3⟩
theorem DR.none {kvs : List (Key × V)} {m : AL α} (h : DR R kvs m) {s : Str} (e : alk m s = none) : valV kvs (Sum.inr s) = none := by
  rcases h.val s with ⟨q, _⟩ | ⟨v, y, h1, h2, h3⟩
  · exact q
  · rw [e] at h2; cases h2
theorem DR.isS {kvs : List (Key × V)} {m : AL α} (h : DR R kvs m) (s : Str) : (valV kvs (Sum.inr s)).isSome = decide (s ∈ akeys m) := by
  rw [← alk_some]
  rcases h.val s with ⟨q, q2⟩ | ⟨v, y, h1, h2, h3⟩
  · rw [q, q2]; rfl
  · rw [h1, h2]; rfl
theorem DR.snoc {kvs : List (Key × V)} {m : AL α} {s : Str} {v : V} {x : α} (h : DR R kvs m) (r : R v x) : DR R (kvs ++ [(Sum.inr s, v)]) (m ++ [(s, x)]) := by
  unfold DR at h ⊢
  induction h with
  | nil => exact .cons ⟨rfl, r⟩ .nil
  | cons a _ ih => exact .cons a ih
theorem DR.put {kvs : List (Key × V)} {m : AL α} {s : Str} {v : V} {x : α} (h : DR R kvs m) (r : R v x) : DR R (putK kvs (Sum.inr s) v) (aput m s x) := by
  have ek : (kvs.any fun kv => decide (kv.1 = (Sum.inr s : Key))) = decide (s ∈ akeys m) := by
    unfold DR at h
    clear r
    induction h with
    | nil => rfl
    | @cons kv p ks ps a _ ih =>
      rw [List.any_cons, ih, a.1]
      show (decide ((Sum.inr p.1 : Key) = Sum.inr s) || decide (s ∈ akeys ps)) = decide (s ∈ p.1 :: akeys ps)
      by_cases c : p.1 = s
      · rw [c]; simp
      · rw [decide_eq_false (fun z => c (Sum.inr.inj z)), Bool.false_or]
        exact decide_eq_decide.mpr ⟨List.mem_cons_of_mem _, fun z => (List.mem_cons.mp z).resolve_left fun w => c w.symm⟩
  unfold putK aput
  rw [ek]
  by_cases c : s ∈ akeys m
  · rw [decide_eq_true c, if_pos rfl, if_pos c]
    clear ek c
    unfold DR at h ⊢
    induction h with
    | nil => exact .nil
    | @cons kv p ks ps a _ ih =>
      rw [List.map_cons, List.map_cons]
      refine .cons ?_ ih
      by_cases c : p.1 = s
      · rw [if_pos c, if_pos (by rw [a.1, c])]
        exact ⟨a.1, r⟩
      · rw [if_neg c, if_neg (fun z => c (Sum.inr.inj (a.1.symm.trans z)))]
        exact a
  · rw [decide_eq_false c, if_neg (by decide), if_neg c]
    exact h.snoc r
theorem DR.del {kvs : List (Key × V)} {m : AL α} {s : Str} (h : DR R kvs m) : DR R (dropK kvs (Sum.inr s)) (adel m s) := by
  unfold DR at h ⊢
  unfold dropK adel
  induction h with
  | nil => exact .nil
  | @cons kv p ks ps a _ ih =>
    by_cases c : p.1 = s
    · rw [List.filter_cons_of_neg (by rw [a.1, c]; simp), List.filter_cons_of_neg (by simp [c])]
      exact ih
    · rw [List.filter_cons_of_pos (by rw [a.1]; simpa using c), List.filter_cons_of_pos (by simpa using c)]
      exact .cons a ih
end
end Aw

namespace Aw
open PySem L2
/-! ### texts in order -/
open PySem.Spec in
theorem lt_irr : ∀ a : List Nat, ltCps a a = false
  | [] => rfl
  | x :: r => by unfold ltCps; simp [lt_irr r]
open PySem.Spec in
theorem lt_anti : ∀ a b : List Nat, ltCps a b = false → ltCps b a = false → a = b
  | [], [], _, _ => rfl
  | [], _ :: _, h, _ => by unfold ltCps at h; cases h
  | _ :: _, [], _, h => by unfold ltCps at h; cases h
  | x :: r, y :: t, h1, h2 => by
    unfold ltCps at h1 h2
    rcases Nat.lt_trichotomy x y with c | c | c
    · simp [c] at h1
    · subst c
      simp at h1 h2
      rw [lt_anti r t h1 h2]
    · simp [c] at h2
open PySem.Spec in
theorem le_trans' : ∀ a b c : List Nat, ltCps b a = false → ltCps c b = false → ltCps c a = false
  | a, b, [], h1, h2 => by
    cases b with
    | nil => cases a with
      | nil => rfl
      | cons => exact h1
    | cons => unfold ltCps at h2; cases h2
  | [], b, z :: t, h1, h2 => by unfold ltCps; rfl
  | x :: r, [], z :: t, h1, h2 => by unfold ltCps at h1; cases h1
  | x :: r, y :: s, z :: t, h1, h2 => by
    unfold ltCps at h1 h2 ⊢
    simp only [Bool.or_eq_false_iff, decide_eq_false_iff_not, Bool.and_eq_false_iff] at h1 h2 ⊢
    refine ⟨by omega, ?_⟩
    by_cases c : z = x
    · right
      have e1 : y = x := by omega
      have e2 : z = y := by omega
      rcases h1.2 with q | q
      · simp [e1] at q
      · rcases h2.2 with q' | q'
        · simp [e2] at q'
        · exact le_trans' r s t q q'
    · left; simpa using c
open PySem.Spec in
def sle (a b : Str) : Prop := ltCps b.cps.toList a.cps.toList = false
theorem sle_refl (a : Str) : sle a a := lt_irr _
theorem sle_trans {a b c : Str} (h1 : sle a b) (h2 : sle b c) : sle a c := le_trans' _ _ _ h1 h2
theorem str_ext {a b : Str} (h : a.cps.toList = b.cps.toList) : a = b := by
  cases a with | mk x => cases b with | mk y =>
  have : x = y := Array.toList_inj.mp h
  rw [this]
theorem sle_anti {a b : Str} (h1 : sle a b) (h2 : sle b a) : a = b := str_ext (lt_anti _ _ h2 h1)
theorem rising_pair : ∀ (r : List Str) (p : Str), PyProof.Rows.risingS p r = true → (p :: r).Pairwise sle
  | [], p, _ => List.pairwise_singleton _ _
  | x :: r, p, h => by
    unfold PyProof.Rows.risingS at h
    rw [Bool.and_eq_true] at h
    have h1 : sle p x := by simpa [sle] using h.1
    have ih := rising_pair r x h.2
    rw [List.pairwise_cons]
    refine ⟨fun y hy => ?_, ih⟩
    rcases List.mem_cons.mp hy with q | q
    · rw [q]; exact h1
    · exact sle_trans h1 ((List.pairwise_cons.mp ih).1 y q)
theorem sorted_pair {l : List Str} (h : PyProof.Rows.sortedS l = true) : l.Pairwise sle := by
  cases l with
  | nil => exact .nil
  | cons x r => exact rising_pair r x h
/-- two lists in order that are made of the same are the same -/
theorem srt_one {a b : List Str} (ha : a.Pairwise sle) (hb : b.Pairwise sle) (p : a.Perm b) : a = b := List.Perm.eq_of_pairwise (fun _ _ _ _ => sle_anti) ha hb p
theorem srt_same {a b : List Str} (ha : a.Pairwise sle) (hb : b.Pairwise sle) (na : a.Nodup) (nb : b.Nodup) (h : ∀ x, x ∈ a ↔ x ∈ b) : a = b := srt_one ha hb ((List.perm_ext_iff_of_nodup na nb).mpr h)
theorem addN_nodup {acc : List Str} (h : acc.Nodup) (s : Str) : (addN acc s).Nodup := by
  unfold addN
  split
  · exact h
  · next c =>
    rw [List.nodup_append]
    exact ⟨h, by simp, fun a ha b hb z => c (by rw [List.mem_singleton.mp hb] at z; rw [← z]; exact ha)⟩
theorem once_nodup (l : List Str) : (once l).Nodup := by
  have g : ∀ (l acc : List Str), acc.Nodup → (l.foldl addN acc).Nodup := by
    intro l
    induction l with
    | nil => intro acc h; exact h
    | cons s r ih => intro acc h; exact ih _ (addN_nodup h s)
  exact g l [] .nil
theorem mem_addN {acc : List Str} {s x : Str} : x ∈ addN acc s ↔ x ∈ acc ∨ x = s := by
  unfold addN
  split
  · next c => exact ⟨.inl, fun h => h.elim id fun e => by rw [e]; exact c⟩
  · rw [List.mem_append, List.mem_singleton]
theorem mem_once {l : List Str} {x : Str} : x ∈ once l ↔ x ∈ l := by
  have g : ∀ (l acc : List Str), x ∈ l.foldl addN acc ↔ x ∈ acc ∨ x ∈ l := by
    intro l
    induction l with
    | nil => intro acc; simp
    | cons s r ih =>
      intro acc
      rw [List.foldl_cons, ih, mem_addN, List.mem_cons]
      exact ⟨fun h => h.elim (fun q => q.elim .inl fun e => .inr (.inl e)) fun q => .inr (.inr q), fun h => h.elim (fun q => .inl (.inl q)) fun q => q.elim (fun e => .inl (.inr e)) .inr⟩
  have := g l []
  simpa [once] using this
theorem once_pair {l : List Str} (h : l.Pairwise sle) : (once l).Pairwise sle := by
  have g : ∀ (l acc : List Str), acc.Pairwise sle → l.Pairwise sle → (∀ a ∈ acc, ∀ b ∈ l, sle a b) → (l.foldl addN acc).Pairwise sle := by
    intro l
    induction l with
    | nil => intro acc h _ _; exact h
    | cons s r ih =>
      intro acc ha hl hb
      rw [List.pairwise_cons] at hl
      refine ih _ ?_ hl.2 fun a q b hb' => ?_
      · unfold addN
        split
        · exact ha
        · rw [List.pairwise_append]
          exact ⟨ha, List.pairwise_singleton _ _, fun a q b hb' => by rw [List.mem_singleton.mp hb']; exact hb a q s List.mem_cons_self⟩
      · rcases mem_addN.mp q with z | z
        · exact hb a z b (List.mem_cons_of_mem _ hb')
        · rw [z]; exact hl.1 b hb'
  exact g l [] .nil h fun a q => by cases q
end Aw

namespace Aw
open PySem L2
/-! ### a hall: what it is -/
/-- a run -/
structure Rn where
  nm : Str
  rd : List (Str × Int)
  an : Int
/-- a knot that is kept: the recipes, all runs -/
structure Kt where
  rc : AL T
  rn : AL (List Rn)
structure Hl where
  nums : AL Int
  recs : AL T
  kept : AL Kt
  unt : List Rn
  pts : List (AL Int × AL T × AL Kt)
def numOf (m : AL Int) (s : Str) : Int := (alk m s).getD 0
/-! ### where it stands -/
structure HA where
  p : Addr
  dx : Addr
  n : Addr
  r : Addr
  k : Addr
  u : Addr
  t : Addr
def HA.own (A : HA) (b : Addr) : Prop := b = A.p ∨ b = A.n ∨ b = A.r ∨ b = A.k ∨ b = A.u ∨ b = A.t
/-- the classes: hall, run, knot -/
structure HC where
  h : Addr
  r : Addr
  k : Addr
  t : List NdefX.NTab := []
theorem s_nr : ¬ (("numbers" : Str) = "recipes") := by decide +kernel
theorem s_nk : ¬ (("numbers" : Str) = "kept") := by decide +kernel
theorem s_nu : ¬ (("numbers" : Str) = "untaken") := by decide +kernel
theorem s_np : ¬ (("numbers" : Str) = "points") := by decide +kernel
theorem s_rk : ¬ (("recipes" : Str) = "kept") := by decide +kernel
theorem s_ru : ¬ (("recipes" : Str) = "untaken") := by decide +kernel
theorem s_rp : ¬ (("recipes" : Str) = "points") := by decide +kernel
theorem s_ku : ¬ (("kept" : Str) = "untaken") := by decide +kernel
theorem s_kp : ¬ (("kept" : Str) = "points") := by decide +kernel
theorem s_up : ¬ (("untaken" : Str) = "points") := by decide +kernel
def hallF (A : HA) : List (Str × V) := [("numbers", .ref A.n), ("recipes", .ref A.r), ("kept", .ref A.k), ("untaken", .ref A.u), ("points", .ref A.t)]
theorem lku_pos {k : Str} {v : V} {r : List (Str × V)} : ((k, v) :: r).lookup k = some v := by rw [List.lookup_cons]; simp
theorem lku_neg {k a : Str} {v : V} {r : List (Str × V)} (h : ¬ k = a) : ((a, v) :: r).lookup k = r.lookup k := by
  rw [List.lookup_cons]
  have e : (k == a) = false := beq_eq_false_iff_ne.mpr h
  rw [e]
theorem hallF_n (A : HA) : (hallF A).lookup ("numbers" : Str) = some (.ref A.n) := lku_pos
theorem hallF_r (A : HA) : (hallF A).lookup ("recipes" : Str) = some (.ref A.r) := (lku_neg (Ne.symm s_nr)).trans lku_pos
theorem hallF_k (A : HA) : (hallF A).lookup ("kept" : Str) = some (.ref A.k) := (lku_neg (Ne.symm s_nk)).trans ((lku_neg (Ne.symm s_rk)).trans lku_pos)
theorem hallF_u (A : HA) : (hallF A).lookup ("untaken" : Str) = some (.ref A.u) := (lku_neg (Ne.symm s_nu)).trans ((lku_neg (Ne.symm s_ru)).trans ((lku_neg (Ne.symm s_ku)).trans lku_pos))
theorem hallF_t (A : HA) : (hallF A).lookup ("points" : Str) = some (.ref A.t) := (lku_neg (Ne.symm s_np)).trans ((lku_neg (Ne.symm s_rp)).trans ((lku_neg (Ne.symm s_kp)).trans ((lku_neg (Ne.symm s_up)).trans lku_pos)))
theorem hallF_no (A : HA) {m : Str} (h1 : ¬ m = "numbers") (h2 : ¬ m = "recipes") (h3 : ¬ m = "kept") (h4 : ¬ m = "untaken") (h5 : ¬ m = "points") : (hallF A).lookup m = none := by
  unfold hallF
  rw [lku_neg h1, lku_neg h2, lku_neg h3, lku_neg h4, lku_neg h5]
  rfl
theorem putF_pos {k : Str} {v w : V} {r : List (Str × V)} : putF k v ((k, w) :: r) = (k, v) :: r := by
  show (if k = k then _ else _) = _
  rw [if_pos rfl]
theorem putF_neg {k a : Str} {v w : V} {r : List (Str × V)} (h : ¬ a = k) : putF k v ((a, w) :: r) = (a, w) :: putF k v r := by
  show (if a = k then _ else _) = _
  rw [if_neg h]
theorem hallF_new (n r k u t : Addr) : putF "points" (.ref t) (putF "untaken" (.ref u) (putF "kept" (.ref k) (putF "recipes" (.ref r) (putF "numbers" (.ref n) [])))) = ([("numbers", V.ref n), ("recipes", V.ref r), ("kept", V.ref k), ("untaken", V.ref u), ("points", V.ref t)] : List (Str × V)) := by
  have e1 : putF "numbers" (.ref n) [] = ([("numbers", V.ref n)] : List (Str × V)) := rfl
  have e0 : ∀ (k : Str) (v : V), putF k v [] = [(k, v)] := fun _ _ => rfl
  rw [e1, putF_neg s_nr, e0, putF_neg s_nk, putF_neg s_rk, e0, putF_neg s_nu, putF_neg s_ru, putF_neg s_ku, e0, putF_neg s_np, putF_neg s_rp, putF_neg s_kp, putF_neg s_up, e0]
theorem hallF_putu (A : HA) (x : Addr) : putF "untaken" (.ref x) (hallF A) = hallF { A with u := x } := by
  unfold hallF
  rw [putF_neg s_nu, putF_neg s_ru, putF_neg s_ku, putF_pos]
theorem hallF_putn (A : HA) (x : Addr) : putF "numbers" (.ref x) (hallF A) = hallF { A with n := x } := by
  unfold hallF
  rw [putF_pos]
theorem hallF_putr (A : HA) (x : Addr) : putF "recipes" (.ref x) (hallF A) = hallF { A with r := x } := by
  unfold hallF
  rw [putF_neg s_nr, putF_pos]
theorem hallF_putk (A : HA) (x : Addr) : putF "kept" (.ref x) (hallF A) = hallF { A with k := x } := by
  unfold hallF
  rw [putF_neg s_nk, putF_neg s_rk, putF_pos]
def runF (nm : Str) (t : Addr) (an : Int) : List (Str × V) := [("name", .str nm), ("reads", .ref t), ("answer", .int an)]
def knotF (dr dn : Addr) : List (Str × V) := [("recipes", .ref dr), ("ran", .ref dn)]
/-! ### the relations -/
def IntV (v : V) (i : Int) : Prop := v = .int i
def PairAt (H : Hp) (v : V) (q : Str × Int) : Prop := ∃ a, v = .ref a ∧ H a = some (.tup [.str q.1, .int q.2])
def RunAt (C : HC) (W : Addr → Prop) (H : Hp) (v : V) (r : Rn) : Prop := ∃ a dx t ts, v = .ref a ∧ ¬ W a ∧ H a = some (.ins C.r dx (runF r.nm t r.an)) ∧ H t = some (.tup ts) ∧ LR (PairAt H) ts r.rd
def RunsAt (C : HC) (W : Addr → Prop) (H : Hp) (v : V) (rs : List Rn) : Prop := ∃ l vs, v = .ref l ∧ ¬ W l ∧ H l = some (.lst vs) ∧ LR (RunAt C W H) vs rs
def KnotAt (C : HC) (W : Addr → Prop) (H : Hp) (v : V) (k : Kt) : Prop := ∃ a dx dr dn kr kn, v = .ref a ∧ ¬ W a ∧ ¬ W dr ∧ ¬ W dn ∧ H a = some (.ins C.k dx (knotF dr dn)) ∧ H dr = some (.dK kr) ∧ DR (TA H) kr k.rc ∧ H dn = some (.dK kn) ∧ DR (RunsAt C W H) kn k.rn
def PointAt (C : HC) (W : Addr → Prop) (H : Hp) (v : V) (q : AL Int × AL T × AL Kt) : Prop := ∃ a d1 d2 d3 k1 k2 k3, v = .ref a ∧ H a = some (.tup [.ref d1, .ref d2, .ref d3]) ∧ ¬ W d1 ∧ ¬ W d2 ∧ ¬ W d3 ∧ H d1 = some (.dK k1) ∧ DR IntV k1 q.1 ∧ H d2 = some (.dK k2) ∧ DR (TA H) k2 q.2.1 ∧ H d3 = some (.dK k3) ∧ DR (KnotAt C W H) k3 q.2.2
/-- all that is no W, and every tuple, stays -/
def Fr (W : Addr → Prop) (H H' : Hp) : Prop := ∀ b o, H b = some o → (∀ ps, o ≠ .tbl ps) → (W b → ∃ xs, o = .tup xs) → H' b = some o
theorem Fr.refl (W : Addr → Prop) (H : Hp) : Fr W H H := fun _ _ h _ _ => h
theorem Fr.of_same {W : Addr → Prop} {H H' : Hp} (h : Same H H') : Fr W H H' := fun b o q _ _ => h b o q
theorem Fr.trans {W : Addr → Prop} {H H1 H2 : Hp} (a : Fr W H H1) (b : Fr W H1 H2) : Fr W H H2 := fun c o h n k => b c o (a c o h n k) n k
theorem Fr.tups {W : Addr → Prop} {H H' : Hp} (h : Fr W H H') : Tups H H' := fun b xs q => h b _ q (fun _ z => by cases z) fun _ => ⟨xs, rfl⟩
theorem Fr.wide {W W' : Addr → Prop} {H H' : Hp} (h : Fr W H H') (s : ∀ b, W b → W' b) : Fr W' H H' := fun b o q n k => h b o q n fun w => k (s b w)
theorem Fr.no {W : Addr → Prop} {H H' : Hp} (h : Fr W H H') {b : Addr} {o : HO} (e : H b = some o) (n : ¬ W b) (nt : ∀ ps, o ≠ .tbl ps := by intro _ z; cases z) : H' b = some o := h b o e nt fun w => absurd w n
/-- a store at something that is no tuple -/
theorem Fr.upd {W : Addr → Prop} {H : Hp} {b : Addr} {u : HO} (w : W b) (n : ∀ xs, H b ≠ some (.tup xs)) : Fr W H (upd H b u) := fun c o q _ k => by
  by_cases e : c = b
  · subst e
    obtain ⟨xs, z⟩ := k w
    subst z
    exact absurd q (n xs)
  · rw [upd_ne e]; exact q
theorem PairAt.fr {W : Addr → Prop} {H H' : Hp} {v : V} {q : Str × Int} (h : PairAt H v q) (f : Fr W H H') : PairAt H' v q := by
  obtain ⟨a, e, q⟩ := h
  exact ⟨a, e, f.tups _ _ q⟩
theorem RunAt.fr {C : HC} {W : Addr → Prop} {H H' : Hp} {v : V} {r : Rn} (h : RunAt C W H v r) (f : Fr W H H') : RunAt C W H' v r := by
  obtain ⟨a, dx, t, ts, e, n, q, qt, l⟩ := h
  exact ⟨a, dx, t, ts, e, n, f.no q n, f.tups _ _ qt, l.imp fun _ _ _ z => z.fr f⟩
theorem RunsAt.fr {C : HC} {W : Addr → Prop} {H H' : Hp} {v : V} {rs : List Rn} (h : RunsAt C W H v rs) (f : Fr W H H') : RunsAt C W H' v rs := by
  obtain ⟨l, vs, e, n, q, r⟩ := h
  exact ⟨l, vs, e, n, f.no q n, r.imp fun _ _ _ z => z.fr f⟩
theorem KnotAt.fr {C : HC} {W : Addr → Prop} {H H' : Hp} {v : V} {k : Kt} (h : KnotAt C W H v k) (f : Fr W H H') : KnotAt C W H' v k := by
  obtain ⟨a, dx, dr, dn, kr, kn, e, n1, n2, n3, q, q1, d1, q2, d2⟩ := h
  exact ⟨a, dx, dr, dn, kr, kn, e, n1, n2, n3, f.no q n1, f.no q1 n2, d1.imp fun _ _ _ z => z.mono f.tups, f.no q2 n3, d2.imp fun _ _ _ z => z.fr f⟩
theorem PointAt.fr {C : HC} {W : Addr → Prop} {H H' : Hp} {v : V} {q : AL Int × AL T × AL Kt} (h : PointAt C W H v q) (f : Fr W H H') : PointAt C W H' v q := by
  obtain ⟨a, d1, d2, d3, k1, k2, k3, e, q0, n1, n2, n3, q1, r1, q2, r2, q3, r3⟩ := h
  exact ⟨a, d1, d2, d3, k1, k2, k3, e, f.tups _ _ q0, n1, n2, n3, f.no q1 n1, r1, f.no q2 n2, r2.imp fun _ _ _ z => z.mono f.tups, f.no q3 n3, r3.imp fun _ _ _ z => z.fr f⟩
/-- others may write now at what was not there -/
def Nw (W W' : Addr → Prop) (H : Hp) : Prop := ∀ b, W' b → W b ∨ ∀ o, H b = some o → ∃ ps, o = .tbl ps
theorem Nw.nn {H : Hp} {b : Addr} (h : H b = none) : ∀ o, H b = some o → ∃ ps, o = .tbl ps := fun o e => by rw [h] at e; cases e
theorem Nw.no {W W' : Addr → Prop} {H : Hp} (h : Nw W W' H) {b : Addr} {o : HO} (n : ¬ W b) (e : H b = some o) (nt : ∀ ps, o ≠ .tbl ps := by intro _ z; cases z) : ¬ W' b := fun w => (h b w).elim n fun z => by obtain ⟨ps, q⟩ := z _ e; exact nt ps q
theorem RunAt.nw {C : HC} {W W' : Addr → Prop} {H : Hp} {v : V} {r : Rn} (h : RunAt C W H v r) (f : Nw W W' H) : RunAt C W' H v r := by
  obtain ⟨a, dx, t, ts, e, n, q, qt, l⟩ := h
  exact ⟨a, dx, t, ts, e, f.no n q, q, qt, l⟩
theorem RunsAt.nw {C : HC} {W W' : Addr → Prop} {H : Hp} {v : V} {rs : List Rn} (h : RunsAt C W H v rs) (f : Nw W W' H) : RunsAt C W' H v rs := by
  obtain ⟨l, vs, e, n, q, r⟩ := h
  exact ⟨l, vs, e, f.no n q, q, r.imp fun _ _ _ z => z.nw f⟩
theorem KnotAt.nw {C : HC} {W W' : Addr → Prop} {H : Hp} {v : V} {k : Kt} (h : KnotAt C W H v k) (f : Nw W W' H) : KnotAt C W' H v k := by
  obtain ⟨a, dx, dr, dn, kr, kn, e, n1, n2, n3, q, q1, d1, q2, d2⟩ := h
  exact ⟨a, dx, dr, dn, kr, kn, e, f.no n1 q, f.no n2 q1, f.no n3 q2, q, q1, d1, q2, d2.imp fun _ _ _ z => z.nw f⟩
theorem PointAt.nw {C : HC} {W W' : Addr → Prop} {H : Hp} {v : V} {q : AL Int × AL T × AL Kt} (h : PointAt C W H v q) (f : Nw W W' H) : PointAt C W' H v q := by
  obtain ⟨a, d1, d2, d3, k1, k2, k3, e, q0, n1, n2, n3, q1, r1, q2, r2, q3, r3⟩ := h
  exact ⟨a, d1, d2, d3, k1, k2, k3, e, q0, f.no n1 q1, f.no n2 q2, f.no n3 q3, q1, r1, q2, r2, q3, r3.imp fun _ _ _ z => z.nw f⟩
/-- a hall stands there; W: what somebody may write -/
structure HallAt (C : HC) (W : Addr → Prop) (H : Hp) (A : HA) (h : Hl) : Prop where
  ob : H A.p = some (.ins C.h A.dx (hallF A))
  n : ∃ kvs, H A.n = some (.dK kvs) ∧ DR IntV kvs h.nums
  r : ∃ kvs, H A.r = some (.dK kvs) ∧ DR (TA H) kvs h.recs
  k : ∃ kvs, H A.k = some (.dK kvs) ∧ DR (KnotAt C W H) kvs h.kept
  u : ∃ vs, H A.u = some (.lst vs) ∧ LR (RunAt C W H) vs h.unt
  t : ∃ vs, H A.t = some (.lst vs) ∧ LR (PointAt C W H) vs h.pts
  nr : A.n ≠ A.r
  nk : A.n ≠ A.k
  rk : A.r ≠ A.k
  ut : A.u ≠ A.t
  own : ∀ b, A.own b → W b
section
variable {C : HC} {W W' : Addr → Prop} {H H' : Hp} {A : HA} {h : Hl}
/-- what the hall stands on stays, all others but W's too -/
theorem HallAt.fr (a : HallAt C W H A h) (f : Fr W H H') (k : ∀ b, A.own b → H' b = H b) : HallAt C W H' A h := by
  obtain ⟨kn, en, dn⟩ := a.n
  obtain ⟨kr, er, dr⟩ := a.r
  obtain ⟨kk, ek, dk⟩ := a.k
  obtain ⟨vu, eu, lu⟩ := a.u
  obtain ⟨vt, et, lt⟩ := a.t
  exact ⟨(k _ (.inl rfl)).trans a.ob, ⟨kn, (k _ (.inr (.inl rfl))).trans en, dn⟩, ⟨kr, (k _ (.inr (.inr (.inl rfl)))).trans er, dr.imp fun _ _ _ z => z.mono f.tups⟩, ⟨kk, (k _ (.inr (.inr (.inr (.inl rfl))))).trans ek, dk.imp fun _ _ _ z => z.fr f⟩,
    ⟨vu, (k _ (.inr (.inr (.inr (.inr (.inl rfl)))))).trans eu, lu.imp fun _ _ _ z => z.fr f⟩, ⟨vt, (k _ (.inr (.inr (.inr (.inr (.inr rfl)))))).trans et, lt.imp fun _ _ _ z => z.fr f⟩, a.nr, a.nk, a.rk, a.ut, a.own⟩
theorem HallAt.there (a : HallAt C W H A h) {b : Addr} (o : A.own b) : ∃ u, H b = some u ∧ ∀ xs, u ≠ .tup xs := by
  obtain ⟨kn, en, _⟩ := a.n
  obtain ⟨kr, er, _⟩ := a.r
  obtain ⟨kk, ek, _⟩ := a.k
  obtain ⟨vu, eu, _⟩ := a.u
  obtain ⟨vt, et, _⟩ := a.t
  rcases o with z | z | z | z | z | z <;> subst z
  · exact ⟨_, a.ob, fun xs e => by cases e⟩
  · exact ⟨_, en, fun xs e => by cases e⟩
  · exact ⟨_, er, fun xs e => by cases e⟩
  · exact ⟨_, ek, fun xs e => by cases e⟩
  · exact ⟨_, eu, fun xs e => by cases e⟩
  · exact ⟨_, et, fun xs e => by cases e⟩
theorem HallAt.same (a : HallAt C W H A h) (s : Same H H') : HallAt C W H' A h := a.fr (Fr.of_same s) fun b o => by
  obtain ⟨u, e, _⟩ := a.there o
  rw [e, s _ _ e]
theorem HallAt.nw (a : HallAt C W H A h) (f : Nw W W' H) (own : ∀ b, A.own b → W' b) : HallAt C W' H A h := by
  obtain ⟨kk, ek, dk⟩ := a.k
  obtain ⟨vu, eu, lu⟩ := a.u
  obtain ⟨vt, et, lt⟩ := a.t
  exact ⟨a.ob, a.n, a.r, ⟨kk, ek, dk.imp fun _ _ _ z => z.nw f⟩, ⟨vu, eu, lu.imp fun _ _ _ z => z.nw f⟩, ⟨vt, et, lt.imp fun _ _ _ z => z.nw f⟩, a.nr, a.nk, a.rk, a.ut, own⟩
theorem HallAt.notup (a : HallAt C W H A h) {b : Addr} (o : A.own b) : ∀ xs, H b ≠ some (.tup xs) := fun xs e => by
  obtain ⟨u, q, n⟩ := a.there o
  rw [q] at e
  exact n xs (Option.some.inj e)
end
end Aw

namespace Aw
open PySem L2
/-! ### the words of a written tree -/
def Kd.rk : Kd → Nat
  | .most => 1
  | .least => 2
  | .sum => 3
theorem Kd.rk_rank (k : Kd) : k.rank = (k.rk : Int) := by cases k <;> rfl
mutual
def ww (f : Nat) : T → List Str
  | .num n => [tx n]
  | .name s => [s]
  | .gate s b t => "[" :: s :: tx b :: "]" :: ww 4 t
  | .join k ts => if k.rk < f then "(" :: (wws (k.rk + 1) k.sg ts ++ ([(")" : Str)] : List Str)) else wws (k.rk + 1) k.sg ts
def wws (f : Nat) (sg : Str) : List T → List Str
  | [] => []
  | t :: r => ww f t ++ wwr f sg r
def wwr (f : Nat) (sg : Str) : List T → List Str
  | [] => []
  | t :: r => sg :: (ww f t ++ wwr f sg r)
end
/-! ### the lexer over a written tree -/
theorem str_eta (z : Str) : (⟨z.cps.toList.toArray⟩ : Str) = z := by cases z; rfl
theorem lex_other {c : Nat} (h : kindM c = some .other) (r : List Nat) (ws : List Str) (b : Kn) : lexGo (c :: r) ws b = lexGo r (ws ++ [sg1 c]) .other := by
  conv => lhs; unfold lexGo
  rw [h]
  show lexGo r (lexStep (ws, b) c .other) .other = _
  unfold lexStep
  rw [if_neg (by rintro ⟨_, h | h⟩ <;> cases h), if_pos (by intro z; cases z)]
theorem lex_blank {c : Nat} (h : kindM c = some .blank) (r : List Nat) (ws : List Str) (b : Kn) : lexGo (c :: r) ws b = lexGo r ws .blank := by
  conv => lhs; unfold lexGo
  rw [h]
  show lexGo r (lexStep (ws, b) c .blank) .blank = _
  unfold lexStep
  rw [if_neg (by rintro ⟨_, h | h⟩ <;> cases h), if_neg (by intro z; exact z rfl)]
def Sep (b : Kn) : Prop := b = .other ∨ b = .blank
/-- the signs of one kind in a row -/
theorem lex_more {k : Kn} (hk : k = .letter ∨ k = .figure) (rest : List Nat) (ws : List Str) : ∀ (cs : List Nat) (z : Str), (∀ c ∈ cs, kindM c = some k) → lexGo (cs ++ rest) (ws ++ [z]) k = lexGo rest (ws ++ [z ++ ⟨cs.toArray⟩]) k
  | [], z, _ => by
    have e : z ++ (⟨([] : List Nat).toArray⟩ : Str) = z := by
      show (⟨z.cps ++ #[]⟩ : Str) = z
      rw [Array.append_empty]
    rw [e]
    rfl
  | c :: r, z, h => by
    rw [List.cons_append]
    conv => lhs; unfold lexGo
    rw [h c List.mem_cons_self]
    show lexGo (r ++ rest) (lexStep (ws ++ [z], k) c k) k = _
    have e : lexStep (ws ++ [z], k) c k = ws ++ [z ++ sg1 c] := by
      unfold lexStep
      rw [if_pos ⟨rfl, hk⟩]
      unfold addLast
      dsimp only
      have hl : (ws ++ [z]).length - 1 = ws.length := by rw [List.length_append, List.length_singleton]; omega
      have hw : wd (ws ++ [z]) ws.length = z := by
        unfold wd
        rw [List.getD_eq_getElem?_getD, List.getElem?_append_right (Nat.le_refl _), Nat.sub_self]
        rfl
      rw [hl, hw, List.set_append_right _ _ (Nat.le_refl _), Nat.sub_self]
      rfl
    rw [e, lex_more hk rest ws r (z ++ sg1 c) fun x hx => h x (List.mem_cons_of_mem _ hx)]
    congr 3
    show (⟨(z.cps ++ #[c]) ++ r.toArray⟩ : Str) = ⟨z.cps ++ (c :: r).toArray⟩
    congr 1
    rw [Array.append_assoc]
    congr 1
    simp
theorem lex_word {k : Kn} (hk : k = .letter ∨ k = .figure) {z : Str} (hz : 1 ≤ z.length) (h : ∀ c ∈ z.cps.toList, kindM c = some k) (rest : List Nat) (ws : List Str) {b : Kn} (hb : Sep b) : lexGo (z.cps.toList ++ rest) ws b = lexGo rest (ws ++ [z]) k := by
  cases e : z.cps.toList with
  | nil =>
    have : z.length = z.cps.toList.length := (Array.length_toList).symm
    rw [e] at this
    rw [this] at hz
    exact absurd hz (by decide)
  | cons c r =>
    rw [e] at h
    rw [List.cons_append]
    conv => lhs; unfold lexGo
    rw [h c List.mem_cons_self]
    show lexGo (r ++ rest) (lexStep (ws, b) c k) k = _
    have e1 : lexStep (ws, b) c k = ws ++ [sg1 c] := by
      unfold lexStep
      rw [if_neg (by rintro ⟨q, _⟩; dsimp only at q; subst q; rcases hb with q | q <;> rcases hk with p | p <;> (rw [p] at q; cases q)), if_pos (by intro q; subst q; rcases hk with p | p <;> cases p)]
    rw [e1, lex_more hk rest ws r (sg1 c) fun x hx => h x (List.mem_cons_of_mem _ hx)]
    congr 3
    show (⟨#[c] ++ r.toArray⟩ : Str) = z
    rw [← str_eta z, e]
    congr 1
    simp
theorem kind_let {c : Nat} (h : c ∈ LET) : kindM c = some .letter := by unfold kindM; rw [if_pos h]
theorem kind_fig {c : Nat} (h : c ∈ FIG) : kindM c = some .figure := by
  have q : ∀ c ∈ FIG, kindM c = some .figure := by decide +kernel
  exact q c h
theorem name_facts {s : Str} (h : NameOk s) : 1 ≤ s.length ∧ s.length ≤ 6 ∧ ∀ c ∈ s.cps.toList, c ∈ LET := by
  unfold NameOk nameM at h
  have q := Bool.and_eq_true_iff.mp h
  have q1 := of_decide_eq_true q.1
  exact ⟨q1.1, q1.2, fun c hc => of_decide_eq_true (List.all_eq_true.mp q.2 c hc)⟩
theorem lex_name {s : Str} (h : NameOk s) (rest : List Nat) (ws : List Str) {b : Kn} (hb : Sep b) : lexGo (s.cps.toList ++ rest) ws b = lexGo rest (ws ++ [s]) .letter := by
  obtain ⟨h1, _, h3⟩ := name_facts h
  exact lex_word (.inl rfl) h1 (fun c hc => kind_let (h3 c hc)) rest ws hb
theorem num_facts {n : Int} (h : 0 ≤ n ∧ n ≤ 30) : 1 ≤ (tx n).length ∧ (∀ c ∈ (tx n).cps.toList, c ∈ FIG) ∧ numM 0 (tx n) = some n ∧ nameM (tx n) = false ∧ ¬ tx n = "(" ∧ ¬ tx n = "[" := by
  have q : ∀ k : Nat, k < 31 → 1 ≤ (tx (k : Int)).length ∧ (∀ c ∈ (tx (k : Int)).cps.toList, c ∈ FIG) ∧ numM 0 (tx (k : Int)) = some (k : Int) ∧ nameM (tx (k : Int)) = false ∧ ¬ tx (k : Int) = "(" ∧ ¬ tx (k : Int) = "[" := by decide +kernel
  have e := q n.toNat (by omega)
  rwa [show ((n.toNat : Nat) : Int) = n by omega] at e
theorem bound_facts {n : Int} (h : 1 ≤ n ∧ n ≤ 30) : numM 1 (tx n) = some n := by
  have q : ∀ k : Nat, k < 31 → 1 ≤ k → numM 1 (tx (k : Int)) = some (k : Int) := by decide +kernel
  have e := q n.toNat (by omega) (by omega)
  rwa [show ((n.toNat : Nat) : Int) = n by omega] at e
theorem lex_num {n : Int} (h : 0 ≤ n ∧ n ≤ 30) (rest : List Nat) (ws : List Str) {b : Kn} (hb : Sep b) : lexGo ((tx n).cps.toList ++ rest) ws b = lexGo rest (ws ++ [tx n]) .figure := by
  obtain ⟨h1, h3, _⟩ := num_facts h
  exact lex_word (.inr rfl) h1 (fun c hc => kind_fig (h3 c hc)) rest ws hb
theorem cps_app (a b : Str) : (a ++ b).cps.toList = a.cps.toList ++ b.cps.toList := by
  show (a.cps ++ b.cps).toList = _
  rw [Array.toList_append]
theorem lex_sep (k : Kd) (rest : List Nat) (ws : List Str) (b : Kn) : lexGo (k.sep.cps.toList ++ rest) ws b = lexGo rest (ws ++ [k.sg]) .blank := by
  have e : k.sep.cps.toList = [32] ++ k.sg.cps.toList ++ [32] := by cases k <;> decide +kernel
  obtain ⟨c, h1, h2, h3⟩ : ∃ c, k.sg.cps.toList = [c] ∧ kindM c = some .other ∧ sg1 c = k.sg := by
    cases k
    · exact ⟨43, by decide +kernel⟩
    · exact ⟨38, by decide +kernel⟩
    · exact ⟨124, by decide +kernel⟩
  rw [e, h1]
  show lexGo (32 :: c :: 32 :: rest) ws b = _
  rw [lex_blank (by decide +kernel), lex_other h2, lex_blank (by decide +kernel), h3]
theorem lex_open (rest : List Nat) (ws : List Str) (b : Kn) : lexGo (("(" : Str).cps.toList ++ rest) ws b = lexGo rest (ws ++ ([("(" : Str)] : List Str)) .other := by
  rw [show ("(" : Str).cps.toList = [40] by decide +kernel]
  show lexGo (40 :: rest) ws b = _
  rw [lex_other (by decide +kernel), show sg1 40 = "(" by decide +kernel]
theorem lex_close (rest : List Nat) (ws : List Str) (b : Kn) : lexGo ((")" : Str).cps.toList ++ rest) ws b = lexGo rest (ws ++ ([(")" : Str)] : List Str)) .other := by
  rw [show (")" : Str).cps.toList = [41] by decide +kernel]
  show lexGo (41 :: rest) ws b = _
  rw [lex_other (by decide +kernel), show sg1 41 = ")" by decide +kernel]
theorem lex_gopen (rest : List Nat) (ws : List Str) (b : Kn) : lexGo (("[" : Str).cps.toList ++ rest) ws b = lexGo rest (ws ++ ([("[" : Str)] : List Str)) .other := by
  rw [show ("[" : Str).cps.toList = [91] by decide +kernel]
  show lexGo (91 :: rest) ws b = _
  rw [lex_other (by decide +kernel), show sg1 91 = "[" by decide +kernel]
theorem lex_gclose (rest : List Nat) (ws : List Str) (b : Kn) : lexGo (("] " : Str).cps.toList ++ rest) ws b = lexGo rest (ws ++ ([("]" : Str)] : List Str)) .blank := by
  rw [show ("] " : Str).cps.toList = [93, 32] by decide +kernel]
  show lexGo (93 :: 32 :: rest) ws b = _
  rw [lex_other (by decide +kernel), lex_blank (by decide +kernel), show sg1 93 = "]" by decide +kernel]
theorem lex_sp (rest : List Nat) (ws : List Str) (b : Kn) : lexGo ((" " : Str).cps.toList ++ rest) ws b = lexGo rest ws .blank := by
  rw [show (" " : Str).cps.toList = [32] by decide +kernel]
  show lexGo (32 :: rest) ws b = _
  rw [lex_blank (by decide +kernel)]
/-- the text z, from a place between words on, is the words W -/
def Lx (z : Str) (W : List Str) : Prop := ∀ (rest : List Nat) (ws : List Str) (b : Kn), Sep b → ∃ b', lexGo (z.cps.toList ++ rest) ws b = lexGo rest (ws ++ W) b'
theorem lx_wrs {k : Kd} {f : Nat} : ∀ {ts : List T}, ts ≠ [] → (∀ t ∈ ts, Lx (wr (f : Int) t) (ww f t)) → Lx (wrs k.sep (f : Int) ts) (wws f k.sg ts)
  | [], h, _ => absurd rfl h
  | [t], _, h => by
    rw [wrs_one]
    show Lx _ (ww f t ++ [])
    rw [List.append_nil]
    exact h t (List.mem_singleton.mpr rfl)
  | t :: u :: r, _, h => by
    rw [wrs_two]
    intro rest ws b hb
    obtain ⟨b1, e1⟩ := h t List.mem_cons_self (k.sep.cps.toList ++ ((wrs k.sep (f : Int) (u :: r)).cps.toList ++ rest)) ws b hb
    obtain ⟨b2, e2⟩ := lx_wrs (ts := u :: r) (k := k) (f := f) (by intro z; cases z) (fun t ht => h t (List.mem_cons_of_mem _ ht)) rest (ws ++ ww f t ++ [k.sg]) .blank (.inr rfl)
    refine ⟨b2, ?_⟩
    rw [cps_app, cps_app, List.append_assoc, List.append_assoc, e1, lex_sep, e2]
    congr 1
    show _ = ws ++ (ww f t ++ (k.sg :: (ww f u ++ wwr f k.sg r)))
    simp [wws]
theorem lx_wr : ∀ (d : Nat) {t : T} (f : Nat), TOk NameOk d t → Lx (wr (f : Int) t) (ww f t)
  | d, .num n, f, h => fun rest ws b hb => ⟨.figure, by
      unfold wr ww
      exact lex_num h.num rest ws hb⟩
  | d, .name s, f, h => fun rest ws b hb => ⟨.letter, by
      unfold wr ww
      exact lex_name h.name rest ws hb⟩
  | 0, .gate _ _ _, _, h => h.elim
  | 0, .join _ _, _, h => h.elim
  | d + 1, .gate s n t, f, h => fun rest ws b hb => by
    obtain ⟨h1, h2, h3, h4⟩ := h
    obtain ⟨b', e⟩ := lx_wr d 4 h4 rest (ws ++ ([("[" : Str)] : List Str) ++ [s] ++ [tx n] ++ ([("]" : Str)] : List Str)) .blank (.inr rfl)
    refine ⟨b', ?_⟩
    unfold wr ww
    rw [cps_app, cps_app, cps_app, cps_app, cps_app]
    simp only [List.append_assoc]
    rw [lex_gopen, lex_name h1 _ _ (.inl rfl), lex_sp, lex_num ⟨by omega, h3⟩ _ _ (.inr rfl), lex_gclose]
    rw [show ((4 : Nat) : Int) = 4 from rfl] at e
    rw [e]
    congr 1
    simp
  | d + 1, .join k ts, f, h => fun rest ws b hb => by
    obtain ⟨h1, h2, h3⟩ := h
    have hne : ts ≠ [] := by intro z; subst z; simp at h1
    have L : Lx (wrs k.sep (k.rank + 1) ts) (wws (k.rk + 1) k.sg ts) := by
      have q := lx_wrs (k := k) (f := k.rk + 1) hne fun t ht => lx_wr d (k.rk + 1) (h3 t ht)
      rw [show (((k.rk + 1 : Nat)) : Int) = k.rank + 1 by rw [Kd.rk_rank]; omega] at q
      exact q
    unfold wr ww
    by_cases c : k.rk < f
    · rw [if_pos c, if_pos (by rw [Kd.rk_rank]; omega)]
      obtain ⟨b', e⟩ := L ((")" : Str).cps.toList ++ rest) (ws ++ ([("(" : Str)] : List Str)) .other (.inl rfl)
      refine ⟨.other, ?_⟩
      rw [cps_app, cps_app]
      simp only [List.append_assoc]
      rw [lex_open, e, lex_close]
      congr 1
      simp
    · rw [if_neg c, if_neg (by rw [Kd.rk_rank]; omega)]
      exact L rest ws b hb
theorem lexM_wr {d : Nat} {t : T} (h : TOk NameOk d t) : lexM (wr 0 t) = some (ww 0 t) := by
  obtain ⟨b, e⟩ := lx_wr d 0 h [] [] .blank (.inr rfl)
  unfold lexM
  rw [List.append_nil] at e
  rw [show ((0 : Nat) : Int) = 0 from rfl] at e
  rw [e, List.nil_append]
  unfold lexGo
  rfl
end Aw

namespace Aw
open PySem L2
/-! ### the parser over the words of a written tree -/
def At (ws : List Str) : Nat → List Str → Prop
  | _, [] => True
  | i, a :: r => wd ws i = a ∧ At ws (i + 1) r
theorem At.left {ws : List Str} : ∀ {A B : List Str} {i : Nat}, At ws i (A ++ B) → At ws i A
  | [], _, _, _ => True.intro
  | _ :: A, B, _, h => ⟨h.1, At.left (A := A) (B := B) h.2⟩
theorem At.right {ws : List Str} : ∀ {A B : List Str} {i : Nat}, At ws i (A ++ B) → At ws (i + A.length) B
  | [], _, _, h => h
  | a :: A, B, i, h => by
    have q := At.right (A := A) (B := B) h.2
    rwa [show i + 1 + A.length = i + (a :: A).length by rw [List.length_cons]; omega] at q
theorem At.self (pre : List Str) : ∀ (W : List Str), At (pre ++ W) pre.length W
  | [] => True.intro
  | a :: r => by
    refine ⟨?_, ?_⟩
    · unfold wd
      rw [List.getD_eq_getElem?_getD, List.getElem?_append_right (Nat.le_refl _), Nat.sub_self]
      rfl
    · have q := At.self (pre ++ [a]) r
      rw [List.append_assoc, List.length_append, List.length_singleton] at q
      exact q
def ks : Nat → List Kd
  | 0 => kinds
  | 1 => kinds
  | 2 => [.least, .sum]
  | 3 => [.sum]
  | _ => []
theorem ks_split {f : Nat} {k : Kd} (h : f ≤ k.rk) : ∃ pre, ks f = pre ++ k :: ks (k.rk + 1) ∧ ∀ k' ∈ pre, f ≤ k'.rk := by
  match f, k, h with
  | 0, .most, _ => exact ⟨[], rfl, fun _ h => by cases h⟩
  | 0, .least, _ => exact ⟨[.most], rfl, fun _ h => Nat.zero_le _⟩
  | 0, .sum, _ => exact ⟨[.most, .least], rfl, fun _ h => Nat.zero_le _⟩
  | 1, .most, _ => exact ⟨[], rfl, fun _ h => by cases h⟩
  | 1, .least, _ => exact ⟨[.most], rfl, fun k _ => by cases k <;> decide⟩
  | 1, .sum, _ => exact ⟨[.most, .least], rfl, fun k _ => by cases k <;> decide⟩
  | 2, .most, h => exact absurd h (by decide)
  | 2, .least, _ => exact ⟨[], rfl, fun _ h => by cases h⟩
  | 2, .sum, _ => exact ⟨[.least], rfl, fun k h => by rw [List.mem_singleton.mp h]; decide⟩
  | 3, .most, h => exact absurd h (by decide)
  | 3, .least, h => exact absurd h (by decide)
  | 3, .sum, _ => exact ⟨[], rfl, fun _ h => by cases h⟩
  | n + 4, k, h => cases k <;> exact absurd h (by simp [Kd.rk])
theorem ks_ge {f : Nat} : ∀ {k : Kd}, k ∈ ks f → f ≤ k.rk := by
  intro k h
  match f, h with
  | 0, _ => exact Nat.zero_le _
  | 1, _ => cases k <;> decide
  | 2, h => revert h; cases k <;> decide
  | 3, h => revert h; cases k <;> decide
  | n + 4, h => exact absurd h (by simp [ks])
theorem sg_inj {a b : Kd} (h : a.sg = b.sg) : a = b := by
  revert h
  cases a <;> cases b <;> decide +kernel
theorem chain_stop {ws : List Str} {F : Nat → Option (T × Nat)} {sg : Str} {n : Nat} {ts : List T} {j : Nat} (h : ¬ wd ws j = sg) : chainM ws F sg (n + 1) ts j = some (ts, j) := by
  unfold chainM
  rw [if_neg h]
theorem lift_pre {ws : List Str} {P : Nat → Option (T × Nat)} {ks' : List Kd} {i j : Nat} {t : T} (h : levelM ws P ks' i = some (t, j)) : ∀ {pre : List Kd}, (∀ k ∈ pre, ¬ wd ws j = k.sg) → levelM ws P (pre ++ ks') i = some (t, j)
  | [], _ => h
  | k :: r, hp => by
    have ih := lift_pre h (pre := r) fun k hk => hp k (List.mem_cons_of_mem _ hk)
    rw [List.cons_append]
    unfold levelM
    rw [ih]
    dsimp only
    rw [chain_stop (hp k List.mem_cons_self)]
    rfl
/-- a piece that is no sum, least or most, or stands in brackets -/
theorem lift_piece {ws : List Str} {P : Nat → Option (T × Nat)} {f i j : Nat} {t : T} (h : P i = some (t, j)) (hn : ∀ k : Kd, f ≤ k.rk → ¬ wd ws j = k.sg) : levelM ws P (ks f) i = some (t, j) := by
  have q : levelM ws P [] i = some (t, j) := by unfold levelM; exact h
  have r := lift_pre q (pre := ks f) fun k hk => hn k (ks_ge hk)
  rwa [List.append_nil] at r
/-- the rest of a chain -/
theorem chain_all {ws : List Str} {F : Nat → Option (T × Nat)} {k : Kd} {f : Nat} : ∀ (r : List T) (acc : List T) (j n : Nat), r.length < n → At ws j (wwr f k.sg r) → ¬ wd ws (j + (wwr f k.sg r).length) = k.sg →
    (∀ t ∈ r, ∀ i, At ws i (ww f t) → (wd ws (i + (ww f t).length) = k.sg ∨ i + (ww f t).length = j + (wwr f k.sg r).length) → F i = some (t, i + (ww f t).length)) →
    chainM ws F k.sg n acc j = some (acc ++ r, j + (wwr f k.sg r).length)
  | [], acc, j, n, hn, _, he, _ => by
    cases n with
    | zero => exact absurd hn (Nat.lt_irrefl 0)
    | succ n =>
      rw [List.append_nil]
      exact chain_stop he
  | t :: r, acc, j, n, hn, ha, he, hF => by
    cases n with
    | zero => exact absurd hn (Nat.not_lt_zero _)
    | succ n =>
      have ha' : wd ws j = k.sg ∧ At ws (j + 1) (ww f t ++ wwr f k.sg r) := by unfold wwr at ha; exact ha
      have el : (wwr f k.sg (t :: r)).length = 1 + (ww f t).length + (wwr f k.sg r).length := by
        conv => lhs; unfold wwr
        rw [List.length_cons, List.length_append]; omega
      rw [el] at he hF ⊢
      have e1 : F (j + 1) = some (t, j + 1 + (ww f t).length) := by
        refine hF t List.mem_cons_self (j + 1) ha'.2.left ?_
        cases r with
        | nil => right; show _ = j + (1 + (ww f t).length + 0); omega
        | cons u r =>
          left
          have q := ha'.2.right
          unfold wwr at q
          exact q.1
      unfold chainM
      rw [if_pos ha'.1, e1]
      dsimp only
      have ih := chain_all r (acc ++ [t]) (j + 1 + (ww f t).length) n (by rw [List.length_cons] at hn; omega) ha'.2.right (by
        rwa [show j + 1 + (ww f t).length + (wwr f k.sg r).length = j + (1 + (ww f t).length + (wwr f k.sg r).length) by omega]) (fun u hu i h1 h2 => hF u (List.mem_cons_of_mem _ hu) i h1 (by
        rwa [show j + 1 + (ww f t).length + (wwr f k.sg r).length = j + (1 + (ww f t).length + (wwr f k.sg r).length) by omega] at h2))
      rw [ih, List.append_assoc]
      congr 2
      omega
theorem name_not {s : Str} (h : NameOk s) : ¬ s = "(" ∧ ¬ s = "[" := by
  constructor
  · intro e
    subst e
    exact absurd h (by unfold NameOk; decide +kernel)
  · intro e
    subst e
    exact absurd h (by unfold NameOk; decide +kernel)
/-- a join whose pieces are read, read at its own level -/
theorem join_level {ws : List Str} {P : Nat → Option (T × Nat)} {k : Kd} {ts : List T} {i : Nat} (h2 : 2 ≤ ts.length) (h8 : ts.length ≤ 8) (hl : ts.length ≤ ws.length) (ha : At ws i (wws (k.rk + 1) k.sg ts))
    (hn : ∀ k' : Kd, k.rk ≤ k'.rk → ¬ wd ws (i + (wws (k.rk + 1) k.sg ts).length) = k'.sg)
    (hF : ∀ t ∈ ts, ∀ i, At ws i (ww (k.rk + 1) t) → (∀ k' : Kd, k.rk + 1 ≤ k'.rk → ¬ wd ws (i + (ww (k.rk + 1) t).length) = k'.sg) → levelM ws P (ks (k.rk + 1)) i = some (t, i + (ww (k.rk + 1) t).length)) :
    levelM ws P (k :: ks (k.rk + 1)) i = some (.join k ts, i + (wws (k.rk + 1) k.sg ts).length) := by
  cases ts with
  | nil => exact absurd h2 (by simp)
  | cons t r =>
    have el : (wws (k.rk + 1) k.sg (t :: r)).length = (ww (k.rk + 1) t).length + (wwr (k.rk + 1) k.sg r).length := by
      conv => lhs; unfold wws
      rw [List.length_append]
    have ha' : At ws i (ww (k.rk + 1) t ++ wwr (k.rk + 1) k.sg r) := by unfold wws at ha; exact ha
    rw [el] at hn ⊢
    have other : ∀ {j : Nat}, wd ws j = k.sg → ∀ k' : Kd, k.rk + 1 ≤ k'.rk → ¬ wd ws j = k'.sg := fun e k' hk q => by
      have z := sg_inj (e.symm.trans q)
      subst z
      omega
    have e1 : levelM ws P (ks (k.rk + 1)) i = some (t, i + (ww (k.rk + 1) t).length) := by
      refine hF t List.mem_cons_self i ha'.left ?_
      cases r with
      | nil => exact absurd h2 (by simp)
      | cons u r =>
        have q := ha'.right
        unfold wwr at q
        exact other q.1
    unfold levelM
    rw [e1]
    dsimp only
    have c := chain_all (F := levelM ws P (ks (k.rk + 1))) (k := k) (f := k.rk + 1) r [t] (i + (ww (k.rk + 1) t).length) (ws.length + 1) (by rw [List.length_cons] at hl; omega) ha'.right (by
      rw [Nat.add_assoc]; exact hn k (Nat.le_refl _)) (fun u hu i' h1 h2' => hF u (List.mem_cons_of_mem _ hu) i' h1 (by
        rcases h2' with e | e
        · exact other e
        · rw [e, Nat.add_assoc]
          exact fun k' hk => hn k' (by omega)))
    rw [c]
    dsimp only
    have ej : joinM k ([t] ++ r) = some (.join k (t :: r)) := by
      unfold joinM
      rw [if_neg (by show ¬ 8 < (t :: r).length; omega)]
      cases r with
      | nil => exact absurd h2 (by simp)
      | cons u r => rfl
    rw [ej, Nat.add_assoc]
    rfl
theorem parse_wr {ws : List Str} : ∀ (d D : Nat) {t : T} (f i : Nat), d < D → TOk NameOk d t → ws.length ≥ 3 ∨ d = 0 → At ws i (ww f t) → (∀ k : Kd, f ≤ k.rk → ¬ wd ws (i + (ww f t).length) = k.sg) → levelM ws (pieceM ws D) (ks f) i = some (t, i + (ww f t).length)
  | d, 0, _, _, _, h, _, _, _, _ => absurd h (Nat.not_lt_zero _)
  | d, D + 1, .num n, f, i, hd, h, hw, ha, hn => by
    obtain ⟨h1, h2, h3, h4, h5, h6⟩ := num_facts h.num
    unfold ww at ha hn ⊢
    refine lift_piece ?_ hn
    unfold pieceM
    rw [ha.1, if_neg h5, if_neg h6, h4, if_neg Bool.false_ne_true, h3]
    rfl
  | d, D + 1, .name s, f, i, hd, h, hw, ha, hn => by
    have h1 := h.name
    obtain ⟨h5, h6⟩ := name_not h1
    unfold ww at ha hn ⊢
    refine lift_piece ?_ hn
    unfold pieceM
    rw [ha.1, if_neg h5, if_neg h6, if_pos (show nameM s = true from h1)]
    rfl
  | 0, D + 1, .gate _ _ _, _, _, _, h, _, _, _ => h.elim
  | 0, D + 1, .join _ _, _, _, _, h, _, _, _ => h.elim
  | d + 1, D + 1, .gate s n t, f, i, hd, h, hw, ha, hn => by
    obtain ⟨h1, h2, h3, h4⟩ := h
    unfold ww at ha hn ⊢
    obtain ⟨a1, a2, a3, a4, a5⟩ := ha
    have ih := parse_wr d D (t := t) 4 (i + 1 + 1 + 1 + 1) (by omega) h4 (hw.elim .inl fun z => absurd z (Nat.succ_ne_zero d)) a5 (fun k hk => by cases k <;> exact absurd hk (by decide))
    refine lift_piece ?_ hn
    unfold pieceM
    rw [a1, if_neg (by decide +kernel), if_pos rfl]
    unfold gateM
    rw [a2, if_pos (show nameM s = true from h1), show wd ws (i + 1 + 1) = tx n from a3, bound_facts ⟨h2, h3⟩]
    dsimp only
    rw [if_pos (show wd ws (i + 1 + 2) = "]" from a4)]
    have e : pieceM ws D (i + 1 + 3) = some (t, i + 1 + 1 + 1 + 1 + (ww 4 t).length) := by
      unfold levelM ks at ih
      exact ih
    rw [e]
    refine congrArg (fun j => some (T.gate s n t, j)) ?_
    simp only [List.length_cons]
    omega
  | d + 1, D + 1, .join k ts, f, i, hd, h, hw, ha, hn => by
    obtain ⟨h2, h3, h4⟩ := h
    have hl : ts.length ≤ ws.length := by
      rcases hw with z | z
      · omega
      · cases z
    unfold ww at ha hn ⊢
    by_cases c : k.rk < f
    · rw [if_pos c] at ha hn ⊢
      obtain ⟨a1, a2⟩ := ha
      have aB := a2.left
      have aC := a2.right.1
      refine lift_piece ?_ hn
      unfold pieceM
      rw [a1, if_pos rfl]
      have J := join_level (P := pieceM ws D) (k := k) h2 (by omega) hl aB (fun k' _ e => by
        rw [aC] at e
        cases k' <;> exact absurd e (by decide +kernel)) (fun t ht i' h1 h2' => parse_wr d D (k.rk + 1) i' (by omega) (h4 t ht) (hw.elim .inl fun z => absurd z (Nat.succ_ne_zero d)) h1 h2')
      obtain ⟨pre, ep, hp⟩ := ks_split (f := 0) (k := k) (Nat.zero_le _)
      have Lv := lift_pre J (pre := pre) (fun k' _ e => by
        rw [aC] at e
        cases k' <;> exact absurd e (by decide +kernel))
      rw [← ep] at Lv
      rw [show levelM ws (pieceM ws D) kinds (i + 1) = some (.join k ts, i + 1 + (wws (k.rk + 1) k.sg ts).length) from Lv]
      dsimp only
      rw [if_pos aC]
      congr 2
      rw [List.length_cons, List.length_append, List.length_singleton]
      omega
    · rw [if_neg c] at ha hn ⊢
      have J := join_level (P := pieceM ws (D + 1)) (k := k) h2 (by omega) hl ha (fun k' hk => hn k' (by omega)) (fun t ht i' h1 h2' => parse_wr d (D + 1) (k.rk + 1) i' (by omega) (h4 t ht) (hw.elim .inl fun z => absurd z (Nat.succ_ne_zero d)) h1 h2')
      obtain ⟨pre, ep, hp⟩ := ks_split (f := f) (k := k) (by omega)
      rw [ep]
      exact lift_pre J fun k' hk => hn k' (hp k' hk)
def WB : Nat → Nat
  | 0 => 1
  | d + 1 => 3 * WB d + 4
theorem WB_one : ∀ d, 1 ≤ WB d
  | 0 => Nat.le_refl 1
  | d + 1 => by show 1 ≤ 3 * WB d + 4; omega
theorem wwr_len {f B : Nat} {sg : Str} : ∀ {r : List T}, (∀ t ∈ r, (ww f t).length ≤ B) → (wwr f sg r).length ≤ r.length * (B + 1)
  | [], _ => Nat.zero_le _
  | t :: r, h => by
    unfold wwr
    have ih := wwr_len (sg := sg) (r := r) fun u hu => h u (List.mem_cons_of_mem _ hu)
    have h1 := h t List.mem_cons_self
    rw [List.length_cons, List.length_append, List.length_cons, Nat.add_mul]
    omega
theorem wws_len {f B : Nat} {sg : Str} {t : T} {r : List T} (h : ∀ u ∈ t :: r, (ww f u).length ≤ B) : (wws f sg (t :: r)).length ≤ B + r.length * (B + 1) := by
  unfold wws
  have h1 := h t List.mem_cons_self
  have h2 := wwr_len (sg := sg) (r := r) fun u hu => h u (List.mem_cons_of_mem _ hu)
  rw [List.length_append]
  omega
theorem ww_len : ∀ (d : Nat) {t : T} (f : Nat), TOk NameOk d t → (ww f t).length ≤ WB d
  | d, .num n, f, h => by unfold ww; exact WB_one d
  | d, .name n, f, h => by unfold ww; exact WB_one d
  | 0, .gate _ _ _, _, h => h.elim
  | 0, .join _ _, _, h => h.elim
  | d + 1, .gate s n t, f, h => by
    have e := ww_len d 4 h.2.2.2
    unfold ww
    show _ ≤ 3 * WB d + 4
    simp only [List.length_cons]
    omega
  | d + 1, .join k ts, f, h => by
    obtain ⟨h1, h2, h3⟩ := h
    have e : (wws (k.rk + 1) k.sg ts).length ≤ 3 * WB d + 2 := by
      cases ts with
      | nil => simp at h1
      | cons t r =>
        have q := wws_len (sg := k.sg) (t := t) (r := r) fun u hu => ww_len d (k.rk + 1) (h3 u hu)
        have q2 : r.length * (WB d + 1) ≤ 2 * (WB d + 1) := Nat.mul_le_mul_right _ (by rw [List.length_cons] at h2; omega)
        omega
    unfold ww
    show _ ≤ 3 * WB d + 4
    split
    · rw [List.length_cons, List.length_append, List.length_singleton]; omega
    · omega
theorem ww_pos : ∀ {t : T} (d f : Nat), TOk NameOk d t → 1 ≤ (ww f t).length
  | .num _, d, f, _ => by unfold ww; exact Nat.le_refl 1
  | .name _, d, f, _ => by unfold ww; exact Nat.le_refl 1
  | .gate _ _ _, d, f, _ => by unfold ww; rw [List.length_cons]; omega
  | .join k ts, 0, f, h => h.elim
  | .join k ts, d + 1, f, h => by
    have e : 1 ≤ (wws (k.rk + 1) k.sg ts).length := by
      obtain ⟨h1, h2, h3⟩ := h
      match ts, h1 with
      | t :: u :: r, _ =>
        unfold wws wwr
        rw [List.length_append, List.length_cons]
        omega
    unfold ww
    split
    · rw [List.length_cons]; omega
    · exact e
theorem ww_three {t : T} (d f : Nat) (h : TOk NameOk (d + 1) t) : TOk NameOk 0 t ∨ 3 ≤ (ww f t).length := by
  cases t with
  | num n => exact .inl h
  | name n => exact .inl h
  | gate s n t =>
    right
    unfold ww
    simp only [List.length_cons]
    omega
  | join k ts =>
    right
    obtain ⟨h1, h2, h3⟩ := h
    have e : 3 ≤ (wws (k.rk + 1) k.sg ts).length := by
      match ts, h1, h3 with
      | t :: u :: r, _, h3 =>
        have q1 := ww_pos d (k.rk + 1) (h3 t List.mem_cons_self)
        have q2 := ww_pos d (k.rk + 1) (h3 u (List.mem_cons_of_mem _ List.mem_cons_self))
        unfold wws wwr
        rw [List.length_append, List.length_cons, List.length_append]
        omega
    unfold ww
    split
    · rw [List.length_cons, List.length_append]; omega
    · exact e
theorem sg_ne (k : Kd) : ¬ Str.empty = k.sg := by cases k <;> decide +kernel
theorem read_wr {t : T} (h : TOk NameOk 2 t) : readM (wr 0 t) = some t := by
  have l1 := wr_len (fun s h => (name_facts h).2.1) 2 0 h
  have l2 : (ww 0 t).length ≤ 25 := ww_len 2 0 h
  unfold readM
  rw [if_neg (by have : LB 2 = 134 := rfl; omega), lexM_wr h]
  dsimp only
  rw [if_neg (by omega)]
  have ha : At (ww 0 t) 0 (ww 0 t) := At.self [] (ww 0 t)
  have he : wd (ww 0 t) (0 + (ww 0 t).length) = Str.empty := wd_end (by omega)
  have P : levelM (ww 0 t) (pieceM (ww 0 t) 3) (ks 0) 0 = some (t, 0 + (ww 0 t).length) := by
    rcases ww_three 1 0 h with q | q
    · exact parse_wr 0 3 0 0 (by decide) q (.inr rfl) ha fun k _ e => sg_ne k (he.symm.trans e)
    · exact parse_wr 2 3 0 0 (by decide) h (.inl q) ha fun k _ e => sg_ne k (he.symm.trans e)
  rw [show levelM (ww 0 t) (pieceM (ww 0 t) 3) kinds 0 = _ from P]
  dsimp only
  rw [if_pos he]
end Aw

namespace Aw
open PySem L2
/-! ### any tree that a text is read to: its depth, a bound for its text -/
mutual
def WF : T → Prop
  | .num n => 0 ≤ n ∧ n ≤ 30
  | .name _ => True
  | .gate _ b t => (0 ≤ b ∧ b ≤ 30) ∧ WF t
  | .join _ ts => 0 < ts.length ∧ WFs ts
def WFs : List T → Prop
  | [] => True
  | t :: r => WF t ∧ WFs r
end
mutual
def dep : T → Nat
  | .num _ => 0
  | .name _ => 0
  | .gate _ _ t => dep t + 1
  | .join _ ts => deps ts + 1
def deps : List T → Nat
  | [] => 0
  | t :: r => max (dep t) (deps r)
end
mutual
def Sz : T → Nat
  | .num _ => 2
  | .name s => s.length
  | .gate s _ t => s.length + 8 + Sz t
  | .join _ ts => 2 + Szs ts
def Szs : List T → Nat
  | [] => 0
  | t :: r => Sz t + 3 + Szs r
end
theorem WFs.mem : ∀ {ts : List T} {t : T}, WFs ts → t ∈ ts → WF t
  | _ :: _, _, h, .head _ => h.1
  | _ :: _, _, h, .tail _ m => WFs.mem h.2 m
theorem WFs.of : ∀ {ts : List T}, (∀ t ∈ ts, WF t) → WFs ts
  | [], _ => True.intro
  | t :: r, h => ⟨h t List.mem_cons_self, WFs.of fun u hu => h u (List.mem_cons_of_mem _ hu)⟩
theorem dep_mem : ∀ {ts : List T} {t : T}, t ∈ ts → dep t ≤ deps ts
  | _ :: _, _, .head _ => Nat.le_max_left _ _
  | _ :: _, _, .tail _ m => Nat.le_trans (dep_mem m) (Nat.le_max_right _ _)
theorem deps_le {n : Nat} : ∀ {ts : List T}, (∀ t ∈ ts, dep t ≤ n) → deps ts ≤ n
  | [], _ => Nat.zero_le _
  | t :: r, h => Nat.max_le.mpr ⟨h t List.mem_cons_self, deps_le fun u hu => h u (List.mem_cons_of_mem _ hu)⟩
theorem Sz_mem : ∀ {ts : List T} {t : T}, t ∈ ts → Sz t ≤ Szs ts
  | t :: r, _, .head _ => by show Sz t ≤ Sz t + 3 + Szs r; omega
  | t :: r, u, .tail _ m => by have := Sz_mem m; show Sz u ≤ Sz t + 3 + Szs r; omega
theorem Szs_take : ∀ (ts : List T) (i : Nat), Szs (ts.take i) ≤ Szs ts
  | [], i => by simp
  | t :: r, 0 => Nat.zero_le _
  | t :: r, i + 1 => by have := Szs_take r i; show Sz t + 3 + Szs (r.take i) ≤ Sz t + 3 + Szs r; omega
mutual
theorem wr_Sz : ∀ (t : T) (f : Int), WF t → (wr f t).length ≤ Sz t
  | .num n, f, h => tx_len h
  | .name s, f, h => Nat.le_refl _
  | .gate s b t, f, h => by
    have e := wr_Sz t 4 h.2
    have e2 := tx_len h.1
    unfold wr Sz
    rw [len_app', len_app', len_app', len_app', len_app']
    have c1 : ("[" : Str).length = 1 := by decide +kernel
    have c2 : (" " : Str).length = 1 := by decide +kernel
    have c3 : ("] " : Str).length = 2 := by decide +kernel
    omega
  | .join k ts, f, h => by
    have e := wrs_Sz ts k.sep (k.rank + 1) (sep_len k) h.2
    have c1 : ("(" : Str).length = 1 := by decide +kernel
    have c2 : (")" : Str).length = 1 := by decide +kernel
    unfold wr Sz
    split
    · rw [len_app', len_app']; omega
    · omega
theorem wrs_Sz : ∀ (ts : List T) (sep : Str) (f : Int), sep.length = 3 → WFs ts → (wrs sep f ts).length ≤ Szs ts
  | [], _, _, _, _ => Nat.le_refl _
  | [t], sep, f, _, h => by
    have e := wr_Sz t f h.1
    rw [wrs_one]
    show _ ≤ Sz t + 3 + 0
    omega
  | t :: u :: r, sep, f, hs, h => by
    have e := wr_Sz t f h.1
    have e2 := wrs_Sz (u :: r) sep f hs h.2
    rw [wrs_two, len_app', len_app', hs]
    show _ ≤ Sz t + 3 + Szs (u :: r)
    omega
end
theorem wrs_join (sep : Str) (f : Int) : ∀ ts : List T, wrs sep f ts = Str.join sep (ts.map (wr f))
  | [] => rfl
  | [t] => by rw [wrs_one]; rfl
  | t :: u :: r => by
    rw [wrs_two, wrs_join sep f (u :: r)]
    rfl
theorem sum_Sz (f : Int) : ∀ (ts : List T), WFs ts → ((ts.map (wr f)).map (·.length)).sum + ts.length * 3 ≤ Szs ts
  | [], _ => Nat.le_refl _
  | t :: r, h => by
    have e := sum_Sz f r h.2
    have e1 := wr_Sz t f h.1
    simp only [List.map_cons, List.sum_cons, List.length_cons]
    show _ ≤ Sz t + 3 + Szs r
    omega
/-- the kind in which a piece stands: a gate, or a sum, a least, a most -/
def kfs : Option Kd → Str
  | none => "gate"
  | some k => k.nm
def kff : Option Kd → Int
  | none => 4
  | some k => k.rank + 1
def kinds_of : T → Str
  | .num _ => "number"
  | .name _ => "name"
  | .gate _ _ _ => "gate"
  | .join k _ => k.nm
def bare : Option Kd → List Str
  | none => ["number", "name", "gate"]
  | some .sum => ["number", "name", "gate"]
  | some .least => ["number", "name", "gate", "sum"]
  | some .most => ["number", "name", "gate", "sum", "least"]
/-- what needs no brackets there -/
theorem bare_iff (o : Option Kd) (t : T) : wr (kff o) t = if kinds_of t ∈ bare o then wr 0 t else "(" ++ wr 0 t ++ ")" := by
  have lit : ∀ s ∈ ([("number" : Str), "name", "gate"] : List Str), s ∈ bare o := by
    intro s hs
    cases o with
    | none => exact hs
    | some k => cases k <;> (simp only [bare, List.mem_cons] at hs ⊢; rcases hs with h | h | h | h <;> simp [h] at *)
  cases t with
  | num n => rw [if_pos (lit _ (by simp [kinds_of]))]; unfold wr; rfl
  | name n => rw [if_pos (lit _ (by simp [kinds_of]))]; unfold wr; rfl
  | gate s b t => rw [if_pos (lit _ (by simp [kinds_of]))]; conv => lhs; unfold wr
                  conv => rhs; unfold wr
  | join k ts =>
    have e : (k.nm ∈ bare o) ↔ ¬ k.rank < kff o := by
      revert k
      cases o with
      | none => intro k; cases k <;> decide +kernel
      | some k' => intro k; cases k <;> cases k' <;> decide +kernel
    have ek : kinds_of (.join k ts) = k.nm := rfl
    rw [ek]
    have e0 : wr 0 (.join k ts) = wrs k.sep (k.rank + 1) ts := by
      unfold wr
      rw [if_neg (by cases k <;> decide)]
    rw [e0]
    conv => lhs; unfold wr
    by_cases c : k.rank < kff o
    · rw [if_pos c, if_neg (fun z => e.mp z c)]
    · rw [if_neg c, if_pos (e.mpr c)]
theorem ok_WF : ∀ (d : Nat) {t : T}, TOk NameOk d t → WF t ∧ dep t ≤ d ∧ Sz t ≤ 30 * 4 ^ d
  | d, .num n, h => ⟨h.num, Nat.zero_le _, by
      have := Nat.pow_le_pow_right (n := 4) (by decide) (Nat.zero_le d)
      show 2 ≤ 30 * 4 ^ d
      omega⟩
  | d, .name s, h => ⟨True.intro, Nat.zero_le _, by
      have := Nat.pow_le_pow_right (n := 4) (by decide) (Nat.zero_le d)
      have := (name_facts h.name).2.1
      show s.length ≤ 30 * 4 ^ d
      omega⟩
  | 0, .gate _ _ _, h => h.elim
  | 0, .join _ _, h => h.elim
  | d + 1, .gate s b t, h => by
    obtain ⟨h1, h2, h3, h4⟩ := h
    obtain ⟨a, b', c⟩ := ok_WF d h4
    have l := (name_facts h1).2.1
    have p := Nat.pow_le_pow_right (n := 4) (by decide) (Nat.zero_le d)
    refine ⟨⟨⟨by omega, h3⟩, a⟩, Nat.succ_le_succ b', ?_⟩
    show s.length + 8 + Sz t ≤ 30 * 4 ^ (d + 1)
    rw [Nat.pow_succ]
    omega
  | d + 1, .join k ts, h => by
    obtain ⟨h1, h2, h3⟩ := h
    have p := Nat.pow_le_pow_right (n := 4) (by decide) (Nat.zero_le d)
    refine ⟨⟨by omega, WFs.of fun t ht => (ok_WF d (h3 t ht)).1⟩, Nat.succ_le_succ (deps_le fun t ht => (ok_WF d (h3 t ht)).2.1), ?_⟩
    have g : ∀ (l : List T), (∀ t ∈ l, TOk NameOk d t) → Szs l ≤ l.length * (30 * 4 ^ d + 3) := by
      intro l
      induction l with
      | nil => intro _; exact Nat.zero_le _
      | cons t r ih =>
        intro hl
        have e1 := (ok_WF d (hl t List.mem_cons_self)).2.2
        have e2 := ih fun u hu => hl u (List.mem_cons_of_mem _ hu)
        show Sz t + 3 + Szs r ≤ _
        rw [List.length_cons, Nat.add_mul, Nat.one_mul]
        omega
    have e := g ts h3
    have e2 : ts.length * (30 * 4 ^ d + 3) ≤ 3 * (30 * 4 ^ d + 3) := Nat.mul_le_mul_right _ h2
    show 2 + Szs ts ≤ 30 * 4 ^ (d + 1)
    rw [Nat.pow_succ]
    omega
end Aw

namespace Aw
open PySem L2 NdefX LamX
/-! ### what is made while the program runs, and called elsewhere: a thing that may be called, told by what the base holds -/
/-- a thing that may be called: Pre is what must be tracked at a call -/
structure Clo (P : Program) (w : World) (K : PySem.W.Frag) (mg : Str → Option Value) (base : Heap) (CX : CXT) (k : Nat) (f : Addr) (Pre : Hp → Prop) (sp : Sp) : Prop where
  fn : ∀ (h : Heap) (H : Hp), (∀ b o, base.get? b = some o → h.get? b = some o) → HOk P w H h → Pre H → PySem.W.FnAt f h
  run : ∀ (A : Around) (outer : List Env) (s : Shared) (H : Hp) (us : List Value) (vs : List V) (Q : VK) (E : XK), Room k A → Env0 P w K mg base A outer s H → Pre H → Vals vs us → sp vs H Q E →
    codeAny (model P w) A (.call (.ref f) ⟨us, []⟩) (CR CX outer P w H s Q E) s
theorem Clo.imp {P : Program} {w : World} {K : PySem.W.Frag} {mg : Str → Option Value} {base : Heap} {CX : CXT} {k : Nat} {f : Addr} {Pre : Hp → Prop} {sp sp' : Sp} (c : Clo P w K mg base CX k f Pre sp) (h : ∀ vs H Q E, sp' vs H Q E → sp vs H Q E) : Clo P w K mg base CX k f Pre sp' :=
  ⟨c.fn, fun A outer s H us vs Q E hr e0 hp r q => c.run A outer s H us vs Q E hr e0 hp r (h _ _ _ _ q)⟩
theorem Clo.mono {P : Program} {w : World} {K : PySem.W.Frag} {mg : Str → Option Value} {base : Heap} {CX : CXT} {k j : Nat} {f : Addr} {Pre : Hp → Prop} {sp : Sp} (c : Clo P w K mg base CX k f Pre sp) (h : k ≤ j) : Clo P w K mg base CX j f Pre sp :=
  ⟨c.fn, fun A outer s H us vs Q E hr => c.run A outer s H us vs Q E (hr.mono h)⟩
section
variable {X : Cx} {CX : CXT} {k i : Nat} {f : Addr} {Pre : Hp → Prop} {sp : Sp} {E : XK} {x : Str} {p pos : Pos} {e : Expr} {es : List Expr} {t : L2.TA}
/-- a call's end, whatever base it was proved over -/
theorem ep_of {pins : List (Addr × Obj)} {σ : L2.St} {H : Hp} {s : Shared} {Q : VK} {us : List Value} {g : Addr} (hx : Passes CX X E) (I : Inv X pins σ H s) (h : codeAny (model X.prog X.w) X.A (.call (.ref g) ⟨us, []⟩) (CR CX X.stack X.prog X.w H s Q E) s) :
    wpAny (model X.prog X.w) X.A (call (.ref g) us) (EP X pins σ Q) X.xe s := by
  refine wpAny_call (codeAny_mono h fun r s2 hq => ?_)
  match r, hq with
  | .error er, hq => exact hx pins σ H s er s2 I hq
  | .ok (.ret u), hq => exact I.after hq
  | .ok .next, hq => exact False.elim hq
  | .ok .brk, hq => exact False.elim hq
  | .ok .cont, hq => exact False.elim hq
/-- g(e, ..), g a local name that holds such a thing -/
def tClo (i : Nat) (f : Addr) (Pre : Hp → Prop) (sp : Sp) (E : XK) (t : L2.TA) : TE := fun σ H Q => σ[i]? = some (some (.ref f)) ∧ Pre H ∧ t σ H fun vs H1 => Pre H1 ∧ sp vs H1 Q E
theorem pe_clo (F : Clo X.prog X.w X.K X.mg X.base CX k f Pre sp) (hr : Room k X.A) (hx : Passes CX X E) (hN : X.N[i]? = some x) (hv : Vis X.env.scope x) (ha : PA X (e :: es) t)
    (hd : (x == ("__debug__" : Str)) = false := by decide) (hcd : (x == ("__classdict__" : Str)) = false := by decide)
    (he : starEach (e :: es) X.env = (false, eval e X.env) :: starEach es X.env := by rfl) (hpl : (backTo pos (starEach es X.env)).any (·.1) = false := by rfl) :
    PE X (.Call (.Name x p) (e :: es) [] pos) (tClo i f Pre sp E t) := by
  constructor
  intro pins s σ H Q I h
  obtain ⟨hs, hp, ht⟩ := h
  refine wpAny_Call_Name_kw (thn ((pe_var (pos := p) hN hv hd hcd).run pins s σ H (fun v H1 => v = .ref f ∧ H1 = H) I ⟨_, hs, rfl, rfl⟩) fun u sA ⟨v, HA, IA, rA, qA⟩ => ?_)
  obtain ⟨rfl, rfl⟩ := qA
  cases rA
  refine PySem.W.callWith_F (first := []) (F.fn _ _ IA.bk IA.hok hp) (thn (ha.run pos pins sA σ _ _ IA ht) fun us sB ⟨vs, HB, IB, rB, hpB, qB⟩ => ⟨F.fn _ _ IB.bk IB.hok hpB, ?_⟩) he hpl
  exact ep_of hx IB (F.run X.A X.stack sB HB us vs Q E hr IB.env0 hpB rB qB)
end
/-! ### a wider base: what is there now, untracked, and no frame's -/
section
variable {X : Cx} {pins : List (Addr × Obj)} {σ : L2.St} {H : Hp} {s : Shared}
theorem up_base (I : Inv X pins σ H s) (L : List Addr) (hL : ∀ b ∈ L, H b = none ∧ b ∉ frs X.stack) :
    ∃ B : Heap, (∀ b o, X.base.get? b = some o → B.get? b = some o) ∧ (∀ b ∈ L, B.get? b = s.heap.get? b) ∧ Env0 X.prog X.w X.K X.mg B X.A X.stack s H := by
  have e0 := I.env0
  obtain ⟨hide, hh⟩ : ∃ l : List Addr, l = (List.range s.heap.objs.size).filter fun b => !((X.base.get? b).isSome || decide (b ∈ L)) := ⟨_, rfl⟩
  have no : ∀ b, b ∈ hide → X.base.get? b = none ∧ b ∉ L := fun b hb => by
    rw [hh] at hb
    have z := (List.mem_filter.mp hb).2
    simp only [Bool.not_eq_true', Bool.or_eq_false_iff, decide_eq_false_iff_not] at z
    exact ⟨by simpa using z.1, z.2⟩
  have yes : ∀ b o, s.heap.get? b = some o → X.base.get? b = none → b ∉ L → b ∈ hide := fun b o q h1 h2 => by
    rw [hh]
    exact List.mem_filter.mpr ⟨List.mem_range.mpr (Heap.lt_size q), by simp [h1, h2]⟩
  have sub : ∀ b o, X.base.get? b = some o → (PySem.W.hideAll s.heap hide).get? b = some o := fun b o q => PySem.W.hideAll_get hide (e0.bs b o q).1 fun hm => by rw [(no b hm).1] at q; cases q
  have back : ∀ b o, (PySem.W.hideAll s.heap hide).get? b = some o → s.heap.get? b = some o ∧ ((∃ o', X.base.get? b = some o') ∨ b ∈ L) := fun b o q => by
    have z := PySem.W.of_hideAll hide q
    refine ⟨z, ?_⟩
    cases c : X.base.get? b with
    | some o' => exact .inl ⟨o', rfl⟩
    | none =>
      by_cases cl : b ∈ L
      · exact .inr cl
      · rw [PySem.W.hideAll_none hide (yes b o z c cl)] at q
        cases q
  refine ⟨PySem.W.hideAll s.heap hide, sub, fun b hb => ?_, ⟨e0.frames, ⟨e0.mod.kin.keeps sub, e0.mod.glob.keeps sub, ?_, e0.mod.nolimit.keeps sub⟩, fun b o q => ?_, Nat.le_of_eq (PySem.W.hideAll_size _ _), funFrames_none e0.funs fun b hb => ?_, e0.frf, e0.hok, e0.bare⟩⟩
  · cases c : s.heap.get? b with
    | some o => exact PySem.W.hideAll_get hide c fun hm => (no b hm).2 hb
    | none =>
      cases q : (PySem.W.hideAll s.heap hide).get? b with
      | none => rfl
      | some o =>
        have z := PySem.W.of_hideAll hide q
        rw [c] at z
        cases z
  · obtain ⟨mb, hm, hx⟩ := e0.mod.blt
    exact ⟨mb, hm.keeps sub, hx⟩
  · obtain ⟨z, c⟩ := back b o q
    refine ⟨z, ?_⟩
    rcases c with ⟨o', c⟩ | c
    · exact (e0.bs b o' c).2
    · exact (hL b c).1
  · cases q : (PySem.W.hideAll s.heap hide).get? b with
    | none => rfl
    | some o =>
      obtain ⟨_, c⟩ := back b o q
      rcases c with ⟨o', c⟩ | c
      · rw [(e0.funs.mem hb).1] at c
        cases c
      · exact absurd hb (hL b c).2
/-- a cell of the running def is no frame -/
theorem cell_nofr (I : Inv X pins σ H s) (hfn : ∀ y, X.fn y = true) {y : Str} {c : Addr} (e : X.env.cells.lookup y = some c) : H c = none ∧ c ∉ frs X.stack := by
  refine ⟨I.freeC y c e, fun hb => ?_⟩
  rcases List.mem_cons.mp (I.stkSub c hb) with q | q
  · exact I.cne y c e q
  · obtain ⟨_, o, ho, _⟩ := I.ok.funs.mem q
    exact absurd (Nat.lt_of_lt_of_le (Heap.lt_size ho) (I.ok.cab y c (hfn y) e)) (Nat.lt_irrefl _)
end
/-! ### what the captured cells hold, told of the base -/
structure CellsB (base : Heap) (cl : List (Str × Addr)) (fr : List Str) (ws : List (Option V)) : Prop where
  len : ws.length = fr.length
  all : ∀ y c, cl.lookup y = some c → ∃ v, base.IsCell c v
  inj : ∀ x y c, cl.lookup x = some c → cl.lookup y = some c → x = y
  has : ∀ (i : Nat) (y : Str), fr[i]? = some y → ∃ c, cl.lookup y = some c ∧ ∀ v, ws[i]? = some (some v) → ∃ u, RelV v u ∧ base.IsCell c (some u)
theorem CellsB.at_ {P : Program} {w : World} {K : PySem.W.Frag} {mg : Str → Option Value} {base : Heap} {A : Around} {outer : List Env} {s : Shared} {H : Hp} {cl : List (Str × Addr)} {fr : List Str} {ws : List (Option V)} (c : CellsB base cl fr ws) (e0 : Env0 P w K mg base A outer s H) : CellsAt cl fr ws s.heap H := by
  refine ⟨c.len, fun y a e => ?_, c.inj, fun i y e => ?_⟩
  · obtain ⟨v, o, ho, hd⟩ := c.all y a e
    exact ⟨(e0.bs a o ho).2, v, o, (e0.bs a o ho).1, hd⟩
  · obtain ⟨a, ha, hv⟩ := c.has i y e
    refine ⟨a, ha, fun v ev => ?_⟩
    obtain ⟨u, ru, o, ho, hd⟩ := hv v ev
    exact ⟨u, ru, o, (e0.bs a o ho).1, hd⟩
theorem CellsB.of {B h : Heap} {H : Hp} {cl : List (Str × Addr)} {fr : List Str} {ws : List (Option V)} (c : CellsAt cl fr ws h H) (k : ∀ y a, cl.lookup y = some a → B.get? a = h.get? a) : CellsB B cl fr ws := by
  refine ⟨c.len, fun y a e => ?_, c.inj, fun i y e => ?_⟩
  · obtain ⟨_, v, o, ho, hd⟩ := c.all y a e
    exact ⟨v, o, (k y a e).trans ho, hd⟩
  · obtain ⟨a, ha, hv⟩ := c.has i y e
    refine ⟨a, ha, fun v ev => ?_⟩
    obtain ⟨u, ru, o, ho, hd⟩ := hv v ev
    exact ⟨u, ru, o, (k y a ha).trans ho, hd⟩
/-! ### a lambda with parameters -/
structure LF where
  qual : Str
  params : Arguments
  body : Expr
  scope : Scope
  cl : List (Str × Addr)
  pm : Value
  c : Addr
  ctv : Value
abbrev LF.nf (F : LF) : NF := ⟨"<lambda>", F.qual, F.params, [], F.scope, F.cl, F.c⟩
abbrev LF.obj (F : LF) : Obj := PySem.W.kla_obj "<lambda>" F.qual F.params F.body F.scope F.cl F.pm F.c F.ctv
abbrev LPre (c : Addr) (q : Str) : Hp → Prop := fun H => H c = some (CodeO c q)
theorem clo_lam {P : Program} {w : World} {K : PySem.W.Frag} {mg : Str → Option Value} {base : Heap} {CX : CXT} {N ps fr : List Str} {F : LF} {f : Addr} {k : Nat} {sp : Sp} {ws : List (Option V)} (hf : base.get? f = some F.obj) (C : CellsB base F.cl fr ws) (S : NScope N ps fr F.scope)
    (hb : ∀ us : List Value, us.length = ps.length → bindArgs (PySem.W.kla_fn "<lambda>" F.qual F.params F.body F.scope F.cl F.pm (.ref F.c) F.ctv) ⟨us, []⟩ = pure (ps.zip us)) (len : ∀ vs H Q E, sp vs H Q E → vs.length = ps.length)
    (hbody : ∀ (A : Around) (outer : List Env) (s : Shared) (H : Hp) (vs : List V) (Q : VK) (E : XK), Room k (A.deeper (envF F.nf f s.heap.objs.size)) → LPre F.c F.qual H → sp vs H Q E →
      ∃ t, PE (ncx CX P w K mg base N F.nf f A outer s H E) F.body t ∧ t (startF N vs ws) H Q) : Clo P w K mg base CX (k + 1) f (LPre F.c F.qual) sp := by
  refine ⟨fun h H kb hok _ => ⟨_, none, _, #[], kb _ _ hf⟩, fun A outer s H us vs Q E hr e0 hp r hsp => ?_⟩
  have hl := len _ _ _ _ hsp
  have lim : s.heap.NoLimit := e0.mod.nolimit.keeps fun b o e => (e0.bs b o e).1
  have hfs : s.heap.get? f = some F.obj := (e0.bs _ _ hf).1
  refine PySem.W.kla_callFunE hr.depth hfs rfl S.co S.gen rfl (codeO_at e0.hok hp) ?_
  rw [hb us (by rw [← r.length]; exact hl)]
  refine wpAny_pure (wpAny_newFunctionEnv S.nocell (fun ⟨n, _⟩ hy => S.par n (List.of_mem_zip hy).1) (fun hN hns hsb => ⟨lim.fresh _ hsb, ?_⟩) S.kind)
  show codeAny _ _ (.expr F.body (envF F.nf f s.heap.objs.size)) _ _
  have kp : ∀ b o, s.heap.get? b = some o → hN.get? b = some o := fun b o e => hsb.extBut b o (Nat.ne_of_lt (Heap.lt_size e)) (Heap.get?_push_of_some _ e)
  obtain ⟨t, ht, hq⟩ := hbody A outer s H vs Q E (hr.deeper _) hp hsp
  have I : Inv (ncx CX P w K mg base N F.nf f A outer s H E) [] (startF N vs ws) H { s with heap := hN, toks := s.toks + (ps.zip us).length } := inv_startN S hr.hd e0 hl r (C.at_ e0) hns kp
  refine PySem.W.kla_codeExpr (wpAny_mono (ht.run [] _ _ H Q I hq) (fun v sE hE => ?_) fun _ _ hE => hE)
  obtain ⟨y, HE, J, rv, qE⟩ := hE
  exact ⟨y, HE, J.os, J.bare, J.base, J.hok, rv, qE⟩
section
variable {X : Cx} {CX : CXT} {k : Nat} {g : Addr} {gd : FuncData} {ps fr : List Str} {js : List Nat} {cl : List (Str × Addr)} {E : XK} {x : Str} {p pos : Pos} {e : Expr} {es : List Expr} {t : L2.TA}
theorem cells_up {pins : List (Addr × Obj)} {σ : L2.St} {H : Hp} {s : Shared} (I : Inv X pins σ H s) (hfn : ∀ y, X.fn y = true) (cp : Caps X cl fr js) : ∀ b ∈ cl.map (·.2), (∃ y, cl.lookup y = some b) → H b = none ∧ b ∉ frs X.stack := fun b _ ⟨y, e⟩ => cell_nofr I hfn (cp.sub y b e)
/-- the cells that a function captured, as addresses -/
def celsOf (cl : List (Str × Addr)) : List Addr := (cl.map (·.1)).filterMap fun y => cl.lookup y
theorem celsOf_mem {y : Str} {c : Addr} (e : cl.lookup y = some c) : c ∈ celsOf cl := List.mem_filterMap.mpr ⟨y, List.mem_map_of_mem (PySem.mem_of_lookup e), e⟩
theorem celsOf_back {c : Addr} (h : c ∈ celsOf cl) : ∃ y, cl.lookup y = some c := by
  obtain ⟨y, _, e⟩ := List.mem_filterMap.mp h
  exact ⟨y, e⟩
/-- g(e, ..), g a def of the top that will call what the running def has made: its promise may speak of what the captured names hold -/
theorem pe_up {sp : List (Option V) → Sp} (F : ∀ (B : Heap) (ws : List (Option V)), (∀ b o, X.base.get? b = some o → B.get? b = some o) → CellsB B cl fr ws → FnOk X.prog X.w X.K X.mg B CX k g gd ps (sp ws)) (hfn : ∀ y, X.fn y = true) (cp : X.Ok → Caps X cl fr js)
    (hr : Room k X.A) (hg : Gl X x) (hm : X.mg x = some (.ref g)) (hk : PySem.W.keepIn X.K (.ref g) = true) (hb : Binds X.K gd ps []) (hx : Passes CX X E) (ha : PA X (e :: es) t) (hdb : (x == ("__debug__" : Str)) = false := by decide)
    (he : starEach (e :: es) X.env = (false, eval e X.env) :: starEach es X.env := by rfl) (hpl : (backTo pos (starEach es X.env)).any (·.1) = false := by rfl) :
    PE X (.Call (.Name x p) (e :: es) [] pos) (fun σ H Q => t σ H fun vs H1 => sp (js.map (slotAt σ)) vs H1 Q E) := by
  constructor
  intro pins s σ H Q I h
  refine wpAny_Call_Name_kw (ld_glob I hg hm ?_ hdb)
  refine PySem.W.callWith_K (h₀ := X.base) I.ok.mod.kin hk (thn (ha.run pos pins s σ H _ I h) fun us sB ⟨vs, HB, IB, rB, qB⟩ => ⟨IB.kIn, ?_⟩) he hpl
  obtain ⟨B, sub, hL, e0⟩ := up_base IB (celsOf cl) fun b hb => by
    obtain ⟨y, e⟩ := celsOf_back hb
    exact cell_nofr IB hfn ((cp IB.ok).sub y b e)
  have CB : CellsB B cl fr (js.map (slotAt σ)) := .of (cells_of IB (cp IB.ok)) fun y a e => hL a (celsOf_mem e)
  have G := F B _ sub CB
  have hl : us.length = ps.length := by rw [← rB.length]; exact G.len _ _ _ _ qB
  have bd := hb sB us IB.kIn (by rw [List.append_nil]; exact hl)
  rw [List.append_nil] at bd
  exact ep_of hx IB (G.run X.A X.stack sB HB ⟨us, []⟩ us vs Q E hr e0 bd rB qB)
/-- g(e, lambda ..: body) -/
theorem pe_lam2 {T : List (Addr × Str)} {c P : Addr} {sp : Addr → Addr → List (Option V) → Sp} {e1 body : Expr} {t1 : TE} {params : Arguments} {scope : Scope} {lpos : Pos}
    (F : ∀ (B : Heap) (f : Addr) (M : LF) (ws : List (Option V)), M.qual = X.env.qual ++ "<lambda>" → M.params = params → M.body = body → M.scope = scope → (∀ b o, X.base.get? b = some o → B.get? b = some o) → B.get? f = some M.obj → CellsB B M.cl fr ws → FnOk X.prog X.w X.K X.mg B CX k g gd ps (sp f M.c ws))
    (hfn : ∀ y, X.fn y = true) (hfree : ∀ y ∈ scope.names, y.2 = .free → X.env.scope.names.lookup y.1 = some .cell ∨ X.env.scope.names.lookup y.1 = some .free) (hfr : ∀ y ∈ fr, (y, NameKind.free) ∈ scope.names) (hjs : js.map (fun j => X.N[j]?) = fr.map some)
    (hr : Room k X.A) (hg : Gl X x) (hm : X.mg x = some (.ref g)) (hk : PySem.W.keepIn X.K (.ref g) = true) (hb : Binds X.K gd ps []) (hx : Passes CX X E) (h1 : PE X e1 t1)
    (TB : TabB X.base X.mg c P) (hcode : X.env.code = .ref c) (hmT : (P, X.env.qual ++ "<lambda>") ∈ T) (hu : ∀ q ∈ T, q.1 = P → q.2 = X.env.qual ++ "<lambda>") (hdef : defaultsOf params X.env = ([], [])) (hdb : (x == ("__debug__" : Str)) = false := by decide)
    (he : starEach [e1, .Lambda params body scope lpos] X.env = (false, eval e1 X.env) :: (false, eval (.Lambda params body scope lpos) X.env) :: starEach [] X.env := by rfl) :
    PE X (.Call (.Name x p) [e1, .Lambda params body scope lpos] [] pos) (fun σ H Q => t1 σ H fun v1 H1 => Tabs T H1 ∧ ∀ (f c' : Addr) (H2 : Hp), ExtN H1 H2 → Tabs T H2 → LPre c' (X.env.qual ++ "<lambda>") H2 → sp f c' (js.map (slotAt σ)) [v1, .ref f] H2 Q E) := by
  constructor
  intro pins s σ H Q I h
  have hfre : X.Ok → ∀ y ∈ scope.names, y.2 = .free → ∃ c, X.env.cells.lookup y.1 = some c := fun ok y hy e => (hfree y hy e).elim (fun z => ok.has _ (.inl z)) fun z => ok.has _ (.inr z)
  refine wpAny_Call_Name_kw (ld_glob I hg hm ?_ hdb)
  refine PySem.W.callWith_K (h₀ := X.base) I.ok.mod.kin hk ?_ (by rw [he]; rfl) (by rfl)
  rw [he]
  show wpAny _ _ (spliced ((false, eval e1 X.env) :: (false, eval (.Lambda params body scope lpos) X.env) :: backTo pos (starEach [] X.env))) _ _ s
  refine Calls.spliced_cons (thn (h1.run pins s σ H _ I h) fun u sA ⟨v1, HA, IA, rA, hT, qA⟩ => ?_)
  refine Calls.spliced_cons (lam_make2 IA TB hcode hmT hu hT hdef (hfre IA.ok) fun f c' pm' ctv HB sB IB eN TN hf hfN hfs hco => ?_)
  refine Calls.spliced_nil ⟨IB.kIn, ?_⟩
  have cp : Caps X (cloFrom X.env.cells scope.names []) fr js := Caps.made IB.ok hfree hfr hjs
  obtain ⟨B, sub, hL, e0⟩ := up_base IB (f :: celsOf (cloFrom X.env.cells scope.names [])) fun b hb => by
    rcases List.mem_cons.mp hb with z | z
    · rw [z]; exact ⟨hfN, hfs⟩
    · obtain ⟨y, e⟩ := celsOf_back z
      exact cell_nofr IB hfn (cp.sub y b e)
  have CB : CellsB B (cloFrom X.env.cells scope.names []) fr (js.map (slotAt σ)) := .of (cells_of IB cp) fun y a e => hL a (List.mem_cons_of_mem _ (celsOf_mem e))
  have G := F B f ⟨X.env.qual ++ "<lambda>", params, body, scope, cloFrom X.env.cells scope.names [], pm', c', ctv⟩ _ rfl rfl rfl rfl sub ((hL f List.mem_cons_self).trans hf) CB
  have qB := qA f c' HB eN TN hco
  have rB : Vals [v1, .ref f] [u, .ref f] := .cons rA (.cons rfl .nil)
  have hl : ([u, .ref f] : List Value).length = ps.length := by rw [← rB.length]; exact G.len _ _ _ _ qB
  have bd := hb sB [u, .ref f] IB.kIn (by rw [List.append_nil]; exact hl)
  rw [List.append_nil] at bd
  exact ep_of hx IB (G.run X.A X.stack sB HB ⟨[u, .ref f], []⟩ [u, .ref f] [v1, .ref f] Q E hr e0 bd rB qB)
end
end Aw

namespace Aw
open PySem L2
/-! ### a recipe asked: the askings change a state S -/
section
variable {S : Type} (o : S → Str → Int) (n : S → Str → S)
def maxL : List Int → Int
  | [] => 0
  | [x] => x
  | x :: r => max x (maxL r)
mutual
def ans : T → S → Int × S
  | .num k, st => (k, st)
  | .name s, st => (o st s, n st s)
  | .gate s b t, st => if o st s < b then (0, n st s) else ans t (n st s)
  | .join .sum ts, st => (min 30 (anss ts st).1.sum, (anss ts st).2)
  | .join .most ts, st => (maxL (anss ts st).1, (anss ts st).2)
  | .join .least ts, st => ansl ts 30 st
def anss : List T → S → List Int × S
  | [], st => ([], st)
  | t :: r, st => ((ans t st).1 :: (anss r (ans t st).2).1, (anss r (ans t st).2).2)
def ansl : List T → Int → S → Int × S
  | [], cur, st => (cur, st)
  | t :: r, cur, st => if 0 < cur then ansl r (min cur (ans t st).1) (ans t st).2 else (cur, st)
end
theorem anss_snoc : ∀ (ts : List T) (t : T) (st : S), anss o n (ts ++ [t]) st = ((anss o n ts st).1 ++ [(ans o n t (anss o n ts st).2).1], (ans o n t (anss o n ts st).2).2)
  | [], t, st => by
    show anss o n [t] st = _
    unfold anss
    unfold anss
    rfl
  | u :: r, t, st => by
    have ih := anss_snoc r t (ans o n u st).2
    show anss o n (u :: (r ++ [t])) st = _
    unfold anss
    rw [ih]
    rfl
theorem anss_len : ∀ (ts : List T) (st : S), (anss o n ts st).1.length = ts.length
  | [], st => by unfold anss; rfl
  | t :: r, st => by
    unfold anss
    rw [List.length_cons, anss_len r, List.length_cons]
end
theorem maxL_is : ∀ {l : List Int} {m : Int}, m ∈ l → (∀ x ∈ l, x ≤ m) → m = maxL l
  | [x], m, h, _ => List.mem_singleton.mp h
  | x :: y :: r, m, h, hle => by
    show m = max x (maxL (y :: r))
    have g : ∀ (l : List Int), l ≠ [] → maxL l ∈ l := by
      intro l
      induction l with
      | nil => intro z; exact absurd rfl z
      | cons a r ih =>
        intro _
        cases r with
        | nil => exact List.mem_singleton.mpr rfl
        | cons b r =>
          show max a (maxL (b :: r)) ∈ _
          rcases Int.le_total a (maxL (b :: r)) with q | q
          · rw [Int.max_eq_right q]; exact List.mem_cons_of_mem _ (ih (by intro z; cases z))
          · rw [Int.max_eq_left q]; exact List.mem_cons_self
    have hm := g (y :: r) (by intro z; cases z)
    have h1 := hle x List.mem_cons_self
    have h2 := hle _ (List.mem_cons_of_mem _ hm)
    rcases List.mem_cons.mp h with q | q
    · subst q; omega
    · have ih := maxL_is q fun z hz => hle z (List.mem_cons_of_mem _ hz)
      omega
mutual
/-- the names in a tree keep D -/
def Nm (D : Str → Prop) : T → Prop
  | .num _ => True
  | .name s => D s
  | .gate s _ t => D s ∧ Nm D t
  | .join _ ts => Nms D ts
def Nms (D : Str → Prop) : List T → Prop
  | [] => True
  | t :: r => Nm D t ∧ Nms D r
end
theorem Nms.mem {D : Str → Prop} : ∀ {ts : List T} {t : T}, Nms D ts → t ∈ ts → Nm D t
  | _ :: _, _, h, .head _ => h.1
  | _ :: _, _, h, .tail _ m => Nms.mem h.2 m
theorem Nms.of {D : Str → Prop} : ∀ {ts : List T}, (∀ t ∈ ts, Nm D t) → Nms D ts
  | [], _ => True.intro
  | t :: r, h => ⟨h t List.mem_cons_self, Nms.of fun u hu => h u (List.mem_cons_of_mem _ hu)⟩
theorem nm_of {D : Str → Prop} : ∀ (d : Nat) {t : T}, TOk D d t → Nm D t
  | d, .num _, _ => True.intro
  | d, .name s, h => h.name
  | 0, .gate _ _ _, h => h.elim
  | 0, .join _ _, h => h.elim
  | d + 1, .gate s b t, h => ⟨h.1, nm_of d h.2.2.2⟩
  | d + 1, .join k ts, h => Nms.of fun t ht => nm_of d (h.2.2 t ht)
mutual
/-- how often a tree asks at most -/
def cst : T → Nat
  | .num _ => 0
  | .name _ => 1
  | .gate _ _ t => cst t + 1
  | .join _ ts => csts ts
def csts : List T → Nat
  | [] => 0
  | t :: r => csts r + cst t
end
/-- what the askings promise: J k st, as long as k askings are left -/
structure AskOk {S : Type} (o : S → Str → Int) (n : S → Str → S) (D : Str → Prop) (J : Nat → S → Prop) : Prop where
  lo : ∀ k st s, J (k + 1) st → D s → 0 ≤ o st s
  hi : ∀ k st s, J (k + 1) st → D s → o st s ≤ 30
  st : ∀ k st s, J (k + 1) st → D s → J k (n st s)
  dn : ∀ k st, J (k + 1) st → J k st
theorem AskOk.add {S : Type} {o : S → Str → Int} {n : S → Str → S} {D : Str → Prop} {J : Nat → S → Prop} (K : AskOk o n D J) {k : Nat} {st : S} : ∀ j : Nat, J (k + j) st → J k st
  | 0, h => h
  | j + 1, h => K.add j (K.dn _ _ h)
theorem AskOk.le {S : Type} {o : S → Str → Int} {n : S → Str → S} {D : Str → Prop} {J : Nat → S → Prop} (K : AskOk o n D J) {k m : Nat} {st : S} (h : J m st) (hk : k ≤ m) : J k st := K.add (m - k) (by rw [Nat.add_sub_cancel' hk]; exact h)
section
variable {S : Type} {o : S → Str → Int} {n : S → Str → S} {D : Str → Prop} {J : Nat → S → Prop} (K : AskOk o n D J)
include K
theorem sum_nn : ∀ {l : List Int}, (∀ x ∈ l, 0 ≤ x) → 0 ≤ l.sum
  | [], _ => Int.le_refl 0
  | x :: r, h => by
    rw [List.sum_cons]
    have h1 := h x List.mem_cons_self
    have h2 := sum_nn (l := r) fun y hy => h y (List.mem_cons_of_mem _ hy)
    omega
mutual
theorem ans_ok : ∀ (t : T) (k : Nat) (st : S), WF t → Nm D t → J (k + cst t) st → 0 ≤ (ans o n t st).1 ∧ (ans o n t st).1 ≤ 30 ∧ J k (ans o n t st).2
  | .num v, k, st, w, _, i => by unfold ans; exact ⟨w.1, w.2, i⟩
  | .name s, k, st, _, d, i => by unfold ans; exact ⟨K.lo k st s i d, K.hi k st s i d, K.st k st s i d⟩
  | .gate s b t, k, st, w, d, i => by
    have i' : J (k + cst t + 1) st := i
    unfold ans
    split
    · exact ⟨Int.le_refl 0, by omega, K.add _ (K.st _ st s i' d.1)⟩
    · exact ans_ok t k _ w.2 d.2 (K.st _ st s i' d.1)
  | .join .sum ts, k, st, w, d, i => by
    obtain ⟨h1, h2⟩ := anss_ok ts k st w.2 d i
    have h3 := sum_nn K (l := (anss o n ts st).1) fun x hx => (h1 x hx).1
    unfold ans
    exact ⟨by show 0 ≤ min 30 _; omega, by show min 30 _ ≤ 30; omega, h2⟩
  | .join .most ts, k, st, w, d, i => by
    obtain ⟨h1, h2⟩ := anss_ok ts k st w.2 d i
    unfold ans
    have hm : maxL (anss o n ts st).1 ∈ (anss o n ts st).1 := by
      have g : ∀ (l : List Int), l ≠ [] → maxL l ∈ l := by
        intro l
        induction l with
        | nil => intro z; exact absurd rfl z
        | cons a r ih =>
          intro _
          cases r with
          | nil => exact List.mem_singleton.mpr rfl
          | cons b r =>
            show max a (maxL (b :: r)) ∈ _
            rcases Int.le_total a (maxL (b :: r)) with q | q
            · rw [Int.max_eq_right q]; exact List.mem_cons_of_mem _ (ih (by intro z; cases z))
            · rw [Int.max_eq_left q]; exact List.mem_cons_self
      refine g _ fun z => ?_
      have e := anss_len o n ts st
      rw [z] at e
      have := w.1
      simp at e
      omega
    exact ⟨(h1 _ hm).1, (h1 _ hm).2, h2⟩
  | .join .least ts, k, st, w, d, i => by
    unfold ans
    exact ansl_ok ts 30 k st w.2 d i (by decide) (by decide)
theorem anss_ok : ∀ (ts : List T) (k : Nat) (st : S), WFs ts → Nms D ts → J (k + csts ts) st → (∀ x ∈ (anss o n ts st).1, 0 ≤ x ∧ x ≤ 30) ∧ J k (anss o n ts st).2
  | [], k, st, _, _, i => by unfold anss; exact ⟨fun x hx => (by cases hx), i⟩
  | t :: r, k, st, w, d, i => by
    have i' : J (k + csts r + cst t) st := by rw [Nat.add_assoc]; exact i
    obtain ⟨a1, a2, a3⟩ := ans_ok t (k + csts r) st w.1 d.1 i'
    obtain ⟨b1, b2⟩ := anss_ok r k (ans o n t st).2 w.2 d.2 a3
    unfold anss
    refine ⟨fun x hx => ?_, b2⟩
    rcases List.mem_cons.mp hx with q | q
    · rw [q]; exact ⟨a1, a2⟩
    · exact b1 x q
theorem ansl_ok : ∀ (ts : List T) (cur : Int) (k : Nat) (st : S), WFs ts → Nms D ts → J (k + csts ts) st → 0 ≤ cur → cur ≤ 30 → 0 ≤ (ansl o n ts cur st).1 ∧ (ansl o n ts cur st).1 ≤ 30 ∧ J k (ansl o n ts cur st).2
  | [], cur, k, st, _, _, i, h0, h1 => by unfold ansl; exact ⟨h0, h1, i⟩
  | t :: r, cur, k, st, w, d, i, h0, h1 => by
    have i' : J (k + csts r + cst t) st := by rw [Nat.add_assoc]; exact i
    obtain ⟨a1, a2, a3⟩ := ans_ok t (k + csts r) st w.1 d.1 i'
    unfold ansl
    split
    · exact ansl_ok r _ k _ w.2 d.2 a3 (by omega) (by omega)
    · exact ⟨h0, h1, K.add _ i⟩
end
end
theorem csts_drop {ts : List T} {t : T} {i : Nat} (h : ts[i]? = some t) : csts (ts.drop i) = csts (ts.drop (i + 1)) + cst t := by
  have hlt := (List.getElem?_eq_some_iff.mp h).1
  have z := (List.getElem?_eq_some_iff.mp h).2
  rw [List.drop_eq_getElem_cons hlt, z]
  rfl
/-! ### the heap around an asking -/
/-- all but what stands in M -/
def ButS (M : Addr → Prop) (H H' : Hp) : Prop := ∀ b u, H b = some u → ¬ M b → H' b = some u
theorem ButS.refl (M : Addr → Prop) (H : Hp) : ButS M H H := fun _ _ h _ => h
theorem ButS.trans {M : Addr → Prop} {H H1 H2 : Hp} (a : ButS M H H1) (b : ButS M H1 H2) : ButS M H H2 := fun c u h hc => b c u (a c u h hc) hc
theorem ButS.of_same {M : Addr → Prop} {H H1 : Hp} (a : Same H H1) : ButS M H H1 := fun c u h _ => a c u h
/-- what an asking may change: lists that hold no objects, and dicts -/
def MOk (M : Addr → Prop) (H : Hp) : Prop := ∀ b, M b → (∃ xs, H b = some (.lst xs) ∧ ∀ a r, xs ≠ .ref a :: r) ∨ ∃ kvs, H b = some (.dK kvs)
theorem MOk.keep {M : Addr → Prop} {H H' : Hp} (m : MOk M H) (b : ButS M H H') : Keep H H' := by
  refine ⟨fun c xs q => b c _ q fun hc => ?_, fun c a r q => b c _ q fun hc => ?_⟩
  · rcases m c hc with ⟨ys, e, _⟩ | ⟨kvs, e⟩ <;> (rw [q] at e; cases e)
  · rcases m c hc with ⟨ys, e, n⟩ | ⟨kvs, e⟩
    · rw [q] at e; cases e; exact n a r rfl
    · rw [q] at e; cases e
theorem MOk.tups {M : Addr → Prop} {H H' : Hp} (m : MOk M H) (b : ButS M H H') : Tups H H' := (m.keep b).1
theorem MOk.new {M : Addr → Prop} {H : Hp} (m : MOk M H) {a : Addr} (h : H a = none) : ¬ M a := fun hc => by
  rcases m a hc with ⟨xs, e, _⟩ | ⟨kvs, e⟩ <;> (rw [h] at e; cases e)
theorem MOk.code {M : Addr → Prop} {H : Hp} (m : MOk M H) {c : Addr} {q : Str} (h : LPre c q H) : ¬ M c := fun hc => by
  have h : H c = some (LamX.CodeO c q) := h
  unfold LamX.CodeO at h
  rcases m c hc with ⟨xs, e, _⟩ | ⟨kvs, e⟩ <;> (rw [h] at e; cases e)
def minL (l : List Int) : Int := l.foldl min 30
theorem minL_snoc (l : List Int) (x : Int) : minL (l ++ [x]) = min (minL l) x := by
  unfold minL
  rw [List.foldl_append]
  rfl
theorem minL_is {l : List Int} {m : Int} (hm : m ∈ l) (hle : ∀ x ∈ l, m ≤ x) (h30 : ∀ x ∈ l, x ≤ 30) : minL l = m := by
  have g : ∀ (l : List Int) (c : Int), (∀ x ∈ l, m ≤ x) → m ≤ c → (m ∈ l ∨ c = m) → l.foldl min c = m := by
    intro l
    induction l with
    | nil =>
      intro c _ _ h
      rcases h with h | h
      · cases h
      · exact h
    | cons x r ih =>
      intro c h1 h2 h3
      have hx := h1 x List.mem_cons_self
      refine ih (min c x) (fun y hy => h1 y (List.mem_cons_of_mem _ hy)) (by omega) ?_
      rcases h3 with h3 | h3
      · rcases List.mem_cons.mp h3 with z | z
        · right; omega
        · exact .inl z
      · right; omega
  exact g l 30 hle (h30 m hm) (.inl hm)
theorem ansl_zero {S : Type} {o : S → Str → Int} {n : S → Str → S} : ∀ (ts : List T) (st : S), ansl o n ts 0 st = (0, st)
  | [], st => by unfold ansl; rfl
  | t :: r, st => by unfold ansl; rw [if_neg (Int.lt_irrefl 0)]
theorem ansl_cons {S : Type} {o : S → Str → Int} {n : S → Str → S} {t : T} {r : List T} {cur : Int} {st : S} (h : 0 < cur) : ansl o n (t :: r) cur st = ansl o n r (min cur (ans o n t st).1) (ans o n t st).2 := by
  conv => lhs; unfold ansl
  rw [if_pos h]
end Aw

namespace Aw
open PySem L2
/-! ### the least numbers that fit -/
section
variable (f : Str → Int)
abbrev ansU (t : T) : Int × Unit := ans (S := Unit) (fun _ => f) (fun _ _ => ()) t ()
def ev (t : T) : Int := (ansU f t).1
def evl (ts : List T) (cur : Int) : Int := (ansl (S := Unit) (fun _ => f) (fun _ _ => ()) ts cur ()).1
theorem anssU : ∀ ts : List T, (anss (S := Unit) (fun _ => f) (fun _ _ => ()) ts ()).1 = ts.map (ev f)
  | [] => by unfold anss; rfl
  | t :: r => by
    have ih := anssU r
    unfold anss
    rw [List.map_cons, ← ih]
    rfl
theorem ev_num {k : Int} : ev f (.num k) = k := by unfold ev ansU ans; rfl
theorem ev_name {s : Str} : ev f (.name s) = f s := by unfold ev ansU ans; rfl
theorem ev_gate {s : Str} {b : Int} {t : T} : ev f (.gate s b t) = if f s < b then 0 else ev f t := by
  show (ans _ _ (.gate s b t) ()).1 = _
  unfold ans
  split <;> rfl
theorem ev_sum {ts : List T} : ev f (.join .sum ts) = min 30 (ts.map (ev f)).sum := by
  show (ans _ _ (.join .sum ts) ()).1 = _
  unfold ans
  rw [← anssU]
theorem ev_most {ts : List T} : ev f (.join .most ts) = maxL (ts.map (ev f)) := by
  show (ans _ _ (.join .most ts) ()).1 = _
  unfold ans
  rw [← anssU]
theorem ev_least {ts : List T} : ev f (.join .least ts) = evl f ts 30 := by
  show (ans _ _ (.join .least ts) ()).1 = _
  unfold ans
  rfl
theorem evl_nil {cur : Int} : evl f [] cur = cur := by unfold evl ansl; rfl
theorem evl_cons {t : T} {r : List T} {cur : Int} : evl f (t :: r) cur = if 0 < cur then evl f r (min cur (ev f t)) else cur := by
  show (ansl _ _ (t :: r) cur ()).1 = _
  unfold ansl
  split <;> rfl
end
theorem okU {f : Str → Int} (h : ∀ s, 0 ≤ f s ∧ f s ≤ 30) : AskOk (S := Unit) (fun _ => f) (fun _ _ => ()) (fun _ => True) (fun _ _ => True) :=
  ⟨fun _ _ s _ _ => (h s).1, fun _ _ s _ _ => (h s).2, fun _ _ _ _ _ => True.intro, fun _ _ _ => True.intro⟩
mutual
theorem nm_true : ∀ t : T, Nm (fun _ => True) t
  | .num _ => True.intro
  | .name _ => True.intro
  | .gate _ _ t => ⟨True.intro, nm_true t⟩
  | .join _ ts => nms_true ts
theorem nms_true : ∀ ts : List T, Nms (fun _ => True) ts
  | [] => True.intro
  | t :: r => ⟨nm_true t, nms_true r⟩
end
theorem ev_rng {f : Str → Int} (h : ∀ s, 0 ≤ f s ∧ f s ≤ 30) {t : T} (w : WF t) : 0 ≤ ev f t ∧ ev f t ≤ 30 := by
  obtain ⟨a, b, _⟩ := ans_ok (okU h) t 0 () w (nm_true t) True.intro
  exact ⟨a, b⟩
mutual
theorem ev_nn {f : Str → Int} (h : ∀ s, 0 ≤ f s) : ∀ t : T, WF t → 0 ≤ ev f t
  | .num k, w => by rw [ev_num]; exact w.1
  | .name s, _ => by rw [ev_name]; exact h s
  | .gate s b t, w => by
    rw [ev_gate]
    split
    · exact Int.le_refl 0
    · exact ev_nn h t w.2
  | .join .sum ts, w => by
    rw [ev_sum]
    have := evs_nn h ts w.2
    omega
  | .join .most ts, w => by rw [ev_most]; exact evm_nn h ts w.2
  | .join .least ts, w => by rw [ev_least]; exact evl_nn h ts 30 w.2 (by decide)
theorem evs_nn {f : Str → Int} (h : ∀ s, 0 ≤ f s) : ∀ ts : List T, WFs ts → 0 ≤ (ts.map (ev f)).sum
  | [], _ => Int.le_refl 0
  | t :: r, w => by
    have h1 := ev_nn h t w.1
    have h2 := evs_nn h r w.2
    rw [List.map_cons, List.sum_cons]
    omega
theorem evm_nn {f : Str → Int} (h : ∀ s, 0 ≤ f s) : ∀ ts : List T, WFs ts → 0 ≤ maxL (ts.map (ev f))
  | [], _ => Int.le_refl 0
  | [t], w => ev_nn h t w.1
  | t :: u :: r, w => by
    have h1 := ev_nn h t w.1
    show 0 ≤ max (ev f t) (maxL ((u :: r).map (ev f)))
    omega
theorem evl_nn {f : Str → Int} (h : ∀ s, 0 ≤ f s) : ∀ (ts : List T) (cur : Int), WFs ts → 0 ≤ cur → 0 ≤ evl f ts cur
  | [], cur, _, c => by rw [evl_nil]; exact c
  | t :: r, cur, w, c => by
    have h1 := ev_nn h t w.1
    rw [evl_cons]
    split
    · exact evl_nn h r _ w.2 (by omega)
    · exact c
end
mutual
theorem ev_mono {f g : Str → Int} (h0 : ∀ s, 0 ≤ f s) (h : ∀ s, f s ≤ g s) : ∀ t : T, WF t → ev f t ≤ ev g t
  | .num k, _ => by rw [ev_num, ev_num]; exact Int.le_refl k
  | .name s, _ => by rw [ev_name, ev_name]; exact h s
  | .gate s b t, w => by
    have ih := ev_mono h0 h t w.2
    have hs := h s
    have gn := ev_nn (fun s => Int.le_trans (h0 s) (h s)) t w.2
    rw [ev_gate, ev_gate]
    split
    · split
      · exact Int.le_refl 0
      · exact gn
    · rw [if_neg (by omega)]
      exact ih
  | .join .sum ts, w => by
    rw [ev_sum, ev_sum]
    have := evs_mono h0 h ts w.2
    omega
  | .join .most ts, w => by rw [ev_most, ev_most]; exact evm_mono h0 h ts w.2
  | .join .least ts, w => by rw [ev_least, ev_least]; exact evl_mono h0 h ts 30 30 w.2 (by decide) (Int.le_refl _)
theorem evs_mono {f g : Str → Int} (h0 : ∀ s, 0 ≤ f s) (h : ∀ s, f s ≤ g s) : ∀ ts : List T, WFs ts → (ts.map (ev f)).sum ≤ (ts.map (ev g)).sum
  | [], _ => Int.le_refl 0
  | t :: r, w => by
    have h1 := ev_mono h0 h t w.1
    have h2 := evs_mono h0 h r w.2
    rw [List.map_cons, List.map_cons, List.sum_cons, List.sum_cons]
    omega
theorem evm_mono {f g : Str → Int} (h0 : ∀ s, 0 ≤ f s) (h : ∀ s, f s ≤ g s) : ∀ ts : List T, WFs ts → maxL (ts.map (ev f)) ≤ maxL (ts.map (ev g))
  | [], _ => Int.le_refl 0
  | [t], w => ev_mono h0 h t w.1
  | t :: u :: r, w => by
    have h1 := ev_mono h0 h t w.1
    have h2 := evm_mono h0 h (u :: r) w.2
    show max (ev f t) (maxL ((u :: r).map (ev f))) ≤ max (ev g t) (maxL ((u :: r).map (ev g)))
    omega
theorem evl_mono {f g : Str → Int} (h0 : ∀ s, 0 ≤ f s) (h : ∀ s, f s ≤ g s) : ∀ (ts : List T) (c d : Int), WFs ts → 0 ≤ c → c ≤ d → evl f ts c ≤ evl g ts d
  | [], c, d, _, _, le => by rw [evl_nil, evl_nil]; exact le
  | t :: r, c, d, w, c0, le => by
    have h1 := ev_mono h0 h t w.1
    have h2 := ev_nn h0 t w.1
    have gn := evl_nn (fun s => Int.le_trans (h0 s) (h s)) (t :: r) d w (by omega)
    rw [evl_cons]
    split
    · rw [evl_cons, if_pos (by omega)]
      exact evl_mono h0 h r _ _ w.2 (by omega) (by omega)
    · omega
end
/-! ### rounds -/
def put1 (x : Str → Int) (s : Str) (v : Int) : Str → Int := fun z => if z = s then v else x z
/-- what stands on the way up: below each answer, below all that fit -/
structure Up (ws : List Str) (rc : Str → T) (x0 x : Str → Int) : Prop where
  out : ∀ s, s ∉ ws → x s = x0 s
  rng : ∀ s, 0 ≤ x s ∧ x s ≤ 30
  up : ∀ s, s ∈ ws → x s ≤ ev x (rc s)
  low : ∀ y : Str → Int, (∀ s, 0 ≤ y s) → (∀ s, s ∉ ws → x0 s ≤ y s) → (∀ s, s ∈ ws → ev y (rc s) ≤ y s) → ∀ s, x s ≤ y s
theorem Up.start {ws : List Str} {rc : Str → T} {x0 : Str → Int} (w : ∀ s ∈ ws, WF (rc s)) (h : ∀ s, 0 ≤ x0 s ∧ x0 s ≤ 30) (z : ∀ s, s ∈ ws → x0 s = 0) : Up ws rc x0 x0 :=
  ⟨fun _ _ => rfl, h, fun s hs => by rw [z s hs]; exact ev_nn (fun s => (h s).1) _ (w s hs), fun y y0 yo _ s => by
    by_cases c : s ∈ ws
    · rw [z s c]; exact y0 s
    · exact yo s c⟩
theorem Up.step {ws : List Str} {rc : Str → T} {x0 x : Str → Int} (w : ∀ s ∈ ws, WF (rc s)) (u : Up ws rc x0 x) {s : Str} (hs : s ∈ ws) : Up ws rc x0 (put1 x s (ev x (rc s))) ∧ ∀ z, x z ≤ put1 x s (ev x (rc s)) z := by
  have le : ∀ z, x z ≤ put1 x s (ev x (rc s)) z := fun z => by
    unfold put1
    split
    · next e => rw [e]; exact u.up s hs
    · exact Int.le_refl _
  refine ⟨⟨fun z hz => ?_, fun z => ?_, fun z hz => ?_, fun y y0 yo yw z => ?_⟩, le⟩
  · unfold put1
    rw [if_neg (fun e => hz (by rw [e]; exact hs))]
    exact u.out z hz
  · unfold put1
    split
    · exact ev_rng u.rng (w s hs)
    · exact u.rng z
  · have m := ev_mono (fun s => (u.rng s).1) le (rc z) (w z hz)
    unfold put1 at m ⊢
    split
    · next e => rw [e] at m ⊢; exact m
    · exact Int.le_trans (u.up z hz) m
  · have l := u.low y y0 yo yw
    unfold put1
    split
    · next e =>
      rw [e]
      exact Int.le_trans (ev_mono (fun s => (u.rng s).1) l (rc s) (w s hs)) (yw s hs)
    · exact l z
def rnd (rc : Str → T) : List Str → (Str → Int) → Str → Int
  | [], x => x
  | s :: r, x => rnd rc r (put1 x s (ev x (rc s)))
theorem Up.rnd {ws : List Str} {rc : Str → T} {x0 : Str → Int} (w : ∀ s ∈ ws, WF (rc s)) : ∀ (l : List Str) {x : Str → Int}, Up ws rc x0 x → (∀ s ∈ l, s ∈ ws) → Up ws rc x0 (rnd rc l x) ∧ ∀ z, x z ≤ Aw.rnd rc l x z
  | [], x, u, _ => ⟨u, fun z => Int.le_refl _⟩
  | s :: r, x, u, h => by
    obtain ⟨u1, l1⟩ := u.step w (h s List.mem_cons_self)
    obtain ⟨u2, l2⟩ := Up.rnd w r u1 fun z hz => h z (List.mem_cons_of_mem _ hz)
    exact ⟨u2, fun z => Int.le_trans (l1 z) (l2 z)⟩
/-- a round that changes nothing has come to numbers that fit -/
theorem rnd_fix {ws : List Str} {rc : Str → T} {x0 : Str → Int} (w : ∀ s ∈ ws, WF (rc s)) : ∀ (l : List Str) {x : Str → Int}, Up ws rc x0 x → (∀ s ∈ l, s ∈ ws) → (∀ z, rnd rc l x z = x z) → ∀ s ∈ l, x s = ev x (rc s)
  | [], _, _, _, _, s, hs => by cases hs
  | a :: r, x, u, h, e, s, hs => by
    obtain ⟨u1, l1⟩ := u.step w (h a List.mem_cons_self)
    obtain ⟨u2, l2⟩ := Up.rnd w r u1 fun z hz => h z (List.mem_cons_of_mem _ hz)
    have same : put1 x a (ev x (rc a)) = x := by
      funext z
      have h1 := l1 z
      have h2 := l2 z
      have h3 := e z
      unfold rnd at h3
      omega
    have ea : x a = ev x (rc a) := by
      have z := congrFun same a
      unfold put1 at z
      rw [if_pos rfl] at z
      exact z.symm
    rcases List.mem_cons.mp hs with q | q
    · rw [q]; exact ea
    · refine rnd_fix w r u (fun z hz => h z (List.mem_cons_of_mem _ hz)) (fun z => ?_) s q
      have h3 := e z
      unfold rnd at h3
      rw [same] at h3
      exact h3
def gap (ws : List Str) (x : Str → Int) : Nat := (ws.map fun s => (30 - x s).toNat).sum
theorem gap_le {x y : Str → Int} (h : ∀ z, x z ≤ y z) : ∀ ws : List Str, gap ws y ≤ gap ws x
  | [] => Nat.le_refl _
  | s :: r => by
    have ih := gap_le h r
    have hs := h s
    unfold gap at ih ⊢
    rw [List.map_cons, List.map_cons, List.sum_cons, List.sum_cons]
    omega
theorem gap_lt {x y : Str → Int} (h : ∀ z, x z ≤ y z) (t : ∀ z, y z ≤ 30) : ∀ {ws : List Str} {s : Str}, s ∈ ws → x s < y s → gap ws y < gap ws x
  | a :: r, s, hs, lt => by
    have ha := h a
    have ta := t a
    have le := gap_le h r
    unfold gap at le ⊢
    rw [List.map_cons, List.map_cons, List.sum_cons, List.sum_cons]
    rcases List.mem_cons.mp hs with q | q
    · subst q; omega
    · have ih := gap_lt h t q lt
      unfold gap at ih
      omega
/-- the least numbers that fit -/
structure Lfp (ws : List Str) (rc : Str → T) (x0 x : Str → Int) : Prop where
  out : ∀ s, s ∉ ws → x s = x0 s
  rng : ∀ s, 0 ≤ x s ∧ x s ≤ 30
  fit : ∀ s, s ∈ ws → x s = ev x (rc s)
  low : ∀ y : Str → Int, (∀ s, 0 ≤ y s) → (∀ s, s ∉ ws → x0 s ≤ y s) → (∀ s, s ∈ ws → ev y (rc s) ≤ y s) → ∀ s, x s ≤ y s
theorem Up.lfp {ws : List Str} {rc : Str → T} {x0 x : Str → Int} (w : ∀ s ∈ ws, WF (rc s)) (u : Up ws rc x0 x) (e : ∀ z, Aw.rnd rc ws x z = x z) : Lfp ws rc x0 x := ⟨u.out, u.rng, rnd_fix w ws u (fun _ h => h) e, u.low⟩
theorem Lfp.one {ws : List Str} {rc : Str → T} {x0 x y : Str → Int} (a : Lfp ws rc x0 x) (b : Lfp ws rc x0 y) (s : Str) : x s = y s := by
  have h1 := a.low y (fun s => (b.rng s).1) (fun s h => Int.le_of_eq (b.out s h).symm) (fun s h => Int.le_of_eq (b.fit s h).symm) s
  have h2 := b.low x (fun s => (a.rng s).1) (fun s h => Int.le_of_eq (a.out s h).symm) (fun s h => Int.le_of_eq (a.fit s h).symm) s
  omega
end Aw

namespace Aw
open PySem L2
/-! ### an ask: the mirror -/
structure Ak where
  kept : AL Kt
  ended : List Rn
  ran : AL (List Rn)
  place : AL Int
  low : AL Int
  set : AL Unit
def lastA (rs : List Rn) : Int := match rs.getLast? with
  | some r => r.an
  | none => 0
def lastRd (rs : List Rn) : List (Str × Int) := match rs.getLast? with
  | some r => r.rd
  | none => []
/-- what a kept knot's work stands at -/
def ktAns (k : Kt) (s : Str) : Int := lastA ((alk k.rn s).getD [])
def ktRd (k : Kt) (s : Str) : List (Str × Int) := lastRd ((alk k.rn s).getD [])
def plc (st : Ak) (s : Str) : Int := (alk st.place s).getD 0
def lw (st : Ak) (s : Str) : Int := (alk st.low s).getD 0
def goM (st : Ak) (s : Str) : Ak := match alk st.kept s with
  | some k => { st with kept := (akeys k.rc).foldl adel st.kept }
  | none => st
/-- the names that were read, each once -/
def namesRd (rd : List (Str × Int)) : List Str := once (rd.map (·.1))
/-! the works of a knot, from one on -/
def growW (k : Kt) (ws : List Str) (n : Str) : List Str := if n ∈ akeys k.rn ∧ n ∉ ws then ws ++ [n] else ws
def worksM (k : Kt) : Nat → List Str → Nat → List Str
  | 0, ws, _ => ws
  | f + 1, ws, at_ => match ws[at_]? with
    | none => ws
    | some w => worksM k f ((namesRd (ktRd k w)).foldl (growW k) ws) (at_ + 1)
/-! what its works read of names outside -/
def firstRd (k : Kt) (n : Str) (a : Int) : List (Str × Int) := match ((alk k.rn n).getD []).find? fun r => decide (a ≤ r.an) with
  | some r => r.rd
  | none => []
def outW (k : Kt) : Nat → List (Str × Int) → List (Str × Int) → List (Str × Int) → List (Str × Int) × List (Str × Int)
  | 0, out, seen, _ => (out, seen)
  | f + 1, out, seen, wt => match wt with
    | [] => (out, seen)
    | q :: r =>
      if q.1 ∉ akeys k.rn then outW k f (out ++ [q]) seen r
      else if 0 < q.2 ∧ q ∉ seen then outW k f out (seen ++ [q]) (firstRd k q.1 q.2 ++ r)
      else outW k f out seen r
def outL (k : Kt) (f : Nat) : List Str → List (Str × Int) → List (Str × Int) → List (Str × Int)
  | [], out, _ => out
  | w :: ws, out, seen => outL k f ws (outW k f out seen (ktRd k w)).1 (outW k f out seen (ktRd k w)).2
/-- all that was read by runs that a knot has -/
def allRd (k : Kt) : List (Str × Int) := (k.rn.map fun p => (p.2.map (·.rd)).flatten).flatten
def fuelK (k : Kt) : Nat := k.rn.length + 1 + 1001 * ((allRd k).length + 1)
def outM (k : Kt) (name : Str) : List (Str × Int) := outL k (fuelK k) (worksM k (fuelK k) [name] 0) [] []
section
variable (nums : AL Int) (recs : AL T)
def unames : List Str := (recs.map fun p => named p.2).flatten
def fuelS : Nat := recs.length * (31 * (unames recs).length + 1) + 1
def stM (st : Ak) (s : Str) : Int := match alk st.ran s with
  | some rs => lastA rs
  | none => if s ∉ akeys recs then numOf nums s else if s ∈ akeys st.set then (match alk st.kept s with
    | some k => ktAns k s
    | none => 0) else 0
/-- comes to a name for a work that reads it -/
def comeM (B : Ak → Str → Ak) (st : Ak) (s rd : Str) : Ak :=
  if s ∉ akeys recs ∨ s ∈ akeys st.set then st else
    let st1 := if s ∉ akeys st.place then B st s else if s ∈ akeys st.kept then goM st s else st
    { st1 with low := aput st1.low rd (min (lw st1 rd) (lw st1 s)) }
def oddK (k : Kt) : Prop := ∃ p ∈ k.rc, alk recs p.1 ≠ some p.2
open Classical in
noncomputable def goodL (B : Ak → Str → Ak) (name : Str) : List (Str × Int) → Ak → Bool × Ak
  | [], st => (true, st)
  | q :: r, st =>
    let st1 := comeM recs B st q.1 name
    if name ∉ akeys st1.kept ∨ lw st1 name < plc st1 name ∨ stM nums recs st1 q.1 ≠ q.2 then (false, st1) else goodL B name r st1
open Classical in
noncomputable def goodM (B : Ak → Str → Ak) (st : Ak) (name : Str) : Bool × Ak := match alk st.kept name with
  | none => (false, st)
  | some k => if oddK recs k then (false, st) else goodL nums recs B name (outM k name) st
def recOf (s : Str) : T := (alk recs s).getD (.num 0)
abbrev AS := Ak × List (Str × Int)
def askO (B : Ak → Str → Ak) (name : Str) (x : AS) (s : Str) : Int := stM nums recs (comeM recs B x.1 s name) s
def askN (B : Ak → Str → Ak) (name : Str) (x : AS) (s : Str) : AS := (comeM recs B x.1 s name, x.2 ++ [(s, stM nums recs (comeM recs B x.1 s name) s)])
def runOf (B : Ak → Str → Ak) (st : Ak) (name : Str) : Int × AS := ans (askO nums recs B name) (askN nums recs B name) (recOf recs name) (st, [])
def ranAdd (st : Ak) (r : Rn) : Ak := { st with ended := st.ended ++ [r], ran := aput st.ran r.nm ((alk st.ran r.nm).getD [] ++ [r]) }
def runM (B : Ak → Str → Ak) (st : Ak) (name : Str) : Ak := ranAdd (runOf nums recs B st name).2.1 ⟨name, (runOf nums recs B st name).2.2, (runOf nums recs B st name).1⟩
def since (st : Ak) (first : Str) : List Str := (st.place.filter fun p => decide (plc st first ≤ p.2)).map (·.1)
def hasRisen (st : Ak) (s : Str) : Bool := (lastRd ((alk st.ran s).getD [])).any fun q => decide (q.2 < stM nums recs st q.1)
def risenM (st : Ak) (first : Str) : List Str := (akeys st.ran).filter fun s => decide (s ∈ since st first) && hasRisen nums recs st s
def setAll (st : Ak) (l : List Str) : Ak := { st with set := l.foldl (fun m s => aput m s ()) st.set }
def settleM (B : Ak → Str → Ak) : Nat → Ak → Str → Ak
  | 0, st, _ => st
  | f + 1, st, first => if lw st first ≠ plc st first then st else
    match risenM nums recs st first with
    | [] => setAll st (since st first)
    | n :: _ =>
      let st1 := runM nums recs B st n
      settleM B f { st1 with low := aput st1.low first (min (lw st1 first) (lw st1 n)) } first
def placeM (st : Ak) (s : Str) : Ak := { st with place := aput st.place s (st.place.length : Nat), low := aput st.low s (st.place.length : Nat) }
noncomputable def beginOf (B : Ak → Str → Ak) (st : Ak) (s : Str) : Ak :=
  let g := goodM nums recs B (placeM st s) s
  if g.1 = true then setAll g.2 (match alk g.2.kept s with
    | some k => akeys k.rc
    | none => [])
  else settleM nums recs B (fuelS recs) (runM nums recs B (goM g.2 s) s) s
noncomputable def beginM : Nat → Ak → Str → Ak
  | 0, st, _ => st
  | d + 1, st, s => beginOf nums recs (beginM d) st s
end
end Aw

namespace Aw
open PySem L2
/-! ### which names a recipe reads, where names stand at f -/
section
variable (f : Str → Int)
mutual
def rdn : T → List Str
  | .num _ => []
  | .name s => [s]
  | .gate s b t => s :: (if f s < b then [] else rdn t)
  | .join .sum ts => rdns ts
  | .join .most ts => rdns ts
  | .join .least ts => rdnl ts 30
def rdns : List T → List Str
  | [] => []
  | t :: r => rdn t ++ rdns r
def rdnl : List T → Int → List Str
  | [], _ => []
  | t :: r, cur => if 0 < cur then rdn t ++ rdnl r (min cur (ev f t)) else []
end
theorem rdn_num {k : Int} : rdn f (.num k) = [] := by unfold rdn; rfl
theorem rdn_name {s : Str} : rdn f (.name s) = [s] := by unfold rdn; rfl
theorem rdn_gate {s : Str} {b : Int} {t : T} : rdn f (.gate s b t) = s :: (if f s < b then [] else rdn f t) := by conv => lhs; unfold rdn
theorem rdn_sum {ts : List T} : rdn f (.join .sum ts) = rdns f ts := by conv => lhs; unfold rdn
theorem rdn_most {ts : List T} : rdn f (.join .most ts) = rdns f ts := by conv => lhs; unfold rdn
theorem rdn_least {ts : List T} : rdn f (.join .least ts) = rdnl f ts 30 := by conv => lhs; unfold rdn
theorem rdns_nil : rdns f [] = [] := by unfold rdns; rfl
theorem rdns_cons {t : T} {r : List T} : rdns f (t :: r) = rdn f t ++ rdns f r := by conv => lhs; unfold rdns
theorem rdnl_nil {c : Int} : rdnl f [] c = [] := by unfold rdnl; rfl
theorem rdnl_cons {t : T} {r : List T} {c : Int} : rdnl f (t :: r) c = if 0 < c then rdn f t ++ rdnl f r (min c (ev f t)) else [] := by conv => lhs; unfold rdnl
end
/-! only what is read counts -/
mutual
theorem ev_congr {f g : Str → Int} : ∀ t : T, (∀ s ∈ rdn f t, f s = g s) → ev g t = ev f t ∧ rdn g t = rdn f t
  | .num k, _ => by rw [ev_num, ev_num, rdn_num, rdn_num]; exact ⟨rfl, rfl⟩
  | .name s, h => by rw [ev_name, ev_name, rdn_name, rdn_name, h s (by rw [rdn_name]; exact List.mem_singleton.mpr rfl)]; exact ⟨rfl, rfl⟩
  | .gate s b t, h => by
    rw [rdn_gate] at h
    have e := h s List.mem_cons_self
    rw [ev_gate, ev_gate, rdn_gate, rdn_gate, ← e]
    by_cases c : f s < b
    · simp only [if_pos c]; exact ⟨trivial, trivial⟩
    · rw [if_neg c] at h
      obtain ⟨h1, h2⟩ := ev_congr t fun z hz => h z (List.mem_cons_of_mem _ hz)
      simp only [if_neg c, h1, h2]; exact ⟨trivial, trivial⟩
  | .join .sum ts, h => by
    rw [rdn_sum] at h
    obtain ⟨h1, h2⟩ := evs_congr ts h
    rw [ev_sum, ev_sum, rdn_sum, rdn_sum, h1, h2]; exact ⟨rfl, rfl⟩
  | .join .most ts, h => by
    rw [rdn_most] at h
    obtain ⟨h1, h2⟩ := evs_congr ts h
    rw [ev_most, ev_most, rdn_most, rdn_most, h1, h2]; exact ⟨rfl, rfl⟩
  | .join .least ts, h => by
    rw [rdn_least] at h
    obtain ⟨h1, h2⟩ := evl_congr ts 30 h
    rw [ev_least, ev_least, rdn_least, rdn_least, h1, h2]; exact ⟨rfl, rfl⟩
theorem evs_congr {f g : Str → Int} : ∀ ts : List T, (∀ s ∈ rdns f ts, f s = g s) → ts.map (ev g) = ts.map (ev f) ∧ rdns g ts = rdns f ts
  | [], _ => by rw [rdns_nil, rdns_nil]; exact ⟨rfl, rfl⟩
  | t :: r, h => by
    rw [rdns_cons] at h
    obtain ⟨h1, h2⟩ := ev_congr t fun z hz => h z (List.mem_append_left _ hz)
    obtain ⟨h3, h4⟩ := evs_congr r fun z hz => h z (List.mem_append_right _ hz)
    rw [List.map_cons, List.map_cons, rdns_cons, rdns_cons, h1, h2, h3, h4]; exact ⟨rfl, rfl⟩
theorem evl_congr {f g : Str → Int} : ∀ (ts : List T) (c : Int), (∀ s ∈ rdnl f ts c, f s = g s) → evl g ts c = evl f ts c ∧ rdnl g ts c = rdnl f ts c
  | [], c, _ => by rw [evl_nil, evl_nil, rdnl_nil, rdnl_nil]; exact ⟨rfl, rfl⟩
  | t :: r, c, h => by
    rw [rdnl_cons] at h
    rw [evl_cons, evl_cons, rdnl_cons, rdnl_cons]
    by_cases k : 0 < c
    · rw [if_pos k] at h
      obtain ⟨h1, h2⟩ := ev_congr t fun z hz => h z (List.mem_append_left _ hz)
      obtain ⟨h3, h4⟩ := evl_congr r (min c (ev f t)) fun z hz => h z (List.mem_append_right _ hz)
      rw [if_pos k, if_pos k, if_pos k, if_pos k, h1, h2, h3, h4]; exact ⟨rfl, rfl⟩
    · rw [if_neg k, if_neg k, if_neg k, if_neg k]; exact ⟨rfl, rfl⟩
end
/-! where names rise, no fewer are read -/
mutual
theorem rdn_mono {f g : Str → Int} (h0 : ∀ s, 0 ≤ f s) (h : ∀ s, f s ≤ g s) : ∀ t : T, WF t → ∀ z ∈ rdn f t, z ∈ rdn g t
  | .num k, _, z, hz => by rw [rdn_num] at hz; cases hz
  | .name s, _, z, hz => by rw [rdn_name] at hz ⊢; exact hz
  | .gate s b t, w, z, hz => by
    rw [rdn_gate] at hz ⊢
    rcases List.mem_cons.mp hz with e | e
    · rw [e]; exact List.mem_cons_self
    · by_cases c : f s < b
      · rw [if_pos c] at e; cases e
      · rw [if_neg c] at e
        rw [if_neg (by have := h s; omega)]
        exact List.mem_cons_of_mem _ (rdn_mono h0 h t w.2 z e)
  | .join .sum ts, w, z, hz => by rw [rdn_sum] at hz ⊢; exact rdns_mono h0 h ts w.2 z hz
  | .join .most ts, w, z, hz => by rw [rdn_most] at hz ⊢; exact rdns_mono h0 h ts w.2 z hz
  | .join .least ts, w, z, hz => by rw [rdn_least] at hz ⊢; exact rdnl_mono h0 h ts 30 30 w.2 (by decide) (Int.le_refl _) z hz
theorem rdns_mono {f g : Str → Int} (h0 : ∀ s, 0 ≤ f s) (h : ∀ s, f s ≤ g s) : ∀ ts : List T, WFs ts → ∀ z ∈ rdns f ts, z ∈ rdns g ts
  | [], _, z, hz => by rw [rdns_nil] at hz; cases hz
  | t :: r, w, z, hz => by
    rw [rdns_cons] at hz ⊢
    rcases List.mem_append.mp hz with e | e
    · exact List.mem_append_left _ (rdn_mono h0 h t w.1 z e)
    · exact List.mem_append_right _ (rdns_mono h0 h r w.2 z e)
theorem rdnl_mono {f g : Str → Int} (h0 : ∀ s, 0 ≤ f s) (h : ∀ s, f s ≤ g s) : ∀ (ts : List T) (c d : Int), WFs ts → 0 ≤ c → c ≤ d → ∀ z ∈ rdnl f ts c, z ∈ rdnl g ts d
  | [], c, d, _, _, _, z, hz => by rw [rdnl_nil] at hz; cases hz
  | t :: r, c, d, w, c0, le, z, hz => by
    rw [rdnl_cons] at hz ⊢
    by_cases k : 0 < c
    · rw [if_pos k] at hz
      rw [if_pos (by omega)]
      have m1 := ev_mono h0 h t w.1
      have n1 := ev_nn h0 t w.1
      rcases List.mem_append.mp hz with e | e
      · exact List.mem_append_left _ (rdn_mono h0 h t w.1 z e)
      · exact List.mem_append_right _ (rdnl_mono h0 h r _ _ w.2 (by omega) (by omega) z e)
    · rw [if_neg k] at hz; cases hz
end
mutual
theorem rdn_named {f : Str → Int} : ∀ t : T, ∀ z ∈ rdn f t, z ∈ named t
  | .num k, z, hz => by rw [rdn_num] at hz; cases hz
  | .name s, z, hz => by rw [rdn_name] at hz; exact hz
  | .gate s b t, z, hz => by
    rw [rdn_gate] at hz
    show z ∈ s :: named t
    rcases List.mem_cons.mp hz with e | e
    · rw [e]; exact List.mem_cons_self
    · by_cases c : f s < b
      · rw [if_pos c] at e; cases e
      · rw [if_neg c] at e
        exact List.mem_cons_of_mem _ (rdn_named t z e)
  | .join .sum ts, z, hz => by rw [rdn_sum] at hz; exact rdns_named ts z hz
  | .join .most ts, z, hz => by rw [rdn_most] at hz; exact rdns_named ts z hz
  | .join .least ts, z, hz => by rw [rdn_least] at hz; exact rdnl_named ts 30 z hz
theorem rdns_named {f : Str → Int} : ∀ ts : List T, ∀ z ∈ rdns f ts, z ∈ nameds ts
  | [], z, hz => by rw [rdns_nil] at hz; cases hz
  | t :: r, z, hz => by
    rw [rdns_cons] at hz
    show z ∈ named t ++ nameds r
    rcases List.mem_append.mp hz with e | e
    · exact List.mem_append_left _ (rdn_named t z e)
    · exact List.mem_append_right _ (rdns_named r z e)
theorem rdnl_named {f : Str → Int} : ∀ (ts : List T) (c : Int), ∀ z ∈ rdnl f ts c, z ∈ nameds ts
  | [], c, z, hz => by rw [rdnl_nil] at hz; cases hz
  | t :: r, c, z, hz => by
    rw [rdnl_cons] at hz
    show z ∈ named t ++ nameds r
    by_cases k : 0 < c
    · rw [if_pos k] at hz
      rcases List.mem_append.mp hz with e | e
      · exact List.mem_append_left _ (rdn_named t z e)
      · exact List.mem_append_right _ (rdnl_named r _ z e)
    · rw [if_neg k] at hz; cases hz
end
end Aw

namespace Aw
open PySem L2
/-! ### names that lean on names: where they lead -/
/-- a dict of lists of names: each name, where its list lies, the list -/
abbrev LM := List (Str × Addr × List Str)
def kvL (m : LM) : List (Key × V) := m.map fun p => (Sum.inr p.1, V.ref p.2.1)
def lkp : LM → Str → Option (Addr × List Str)
  | [], _ => none
  | p :: r, s => if p.1 = s then some p.2 else lkp r s
def lof (m : LM) (s : Str) : List Str := match lkp m s with
  | some p => p.2
  | none => []
def tot (m : LM) : Nat := (m.map fun p => p.2.2.length).sum
theorem kvL_val (m : LM) (s : Str) : valV (kvL m) (Sum.inr s) = (lkp m s).map fun p => V.ref p.1 := by
  induction m with
  | nil => rfl
  | cons p r ih =>
    unfold lkp
    by_cases e : p.1 = s
    · rw [if_pos e]
      exact valV_pos (by show (Sum.inr p.1 : Key) = Sum.inr s; rw [e])
    · rw [if_neg e, ← ih]
      exact valV_neg (fun z => e (Sum.inr.inj z))
theorem lkp_mem {m : LM} {s : Str} {p : Addr × List Str} (h : lkp m s = some p) : (s, p.1, p.2) ∈ m := by
  induction m with
  | nil => cases h
  | cons q r ih =>
    unfold lkp at h
    by_cases e : q.1 = s
    · rw [if_pos e] at h
      cases h
      subst e
      exact List.mem_cons_self
    · rw [if_neg e] at h
      exact List.mem_cons_of_mem _ (ih h)
theorem mem_tot {m : LM} {p : Str × Addr × List Str} (h : p ∈ m) : p.2.2.length ≤ tot m := by
  induction m with
  | nil => cases h
  | cons q r ih =>
    unfold tot
    rw [List.map_cons, List.sum_cons]
    rcases List.mem_cons.mp h with e | e
    · rw [e]; omega
    · have := ih e; unfold tot at this; omega
theorem lof_len (m : LM) (s : Str) : (lof m s).length ≤ tot m := by
  unfold lof
  split
  · next p h => exact mem_tot (lkp_mem h)
  · exact Nat.zero_le _
def uni (m : LM) : List Str := (m.map fun p => p.2.2).flatten
theorem uni_len (m : LM) : (uni m).length = tot m := by
  unfold uni tot
  rw [List.length_flatten, List.map_map]
  rfl
theorem lof_uni {m : LM} {s x : Str} (h : x ∈ lof m s) : x ∈ uni m := by
  unfold lof at h
  split at h
  · next p e => exact List.mem_flatten.mpr ⟨p.2, List.mem_map.mpr ⟨_, lkp_mem e, rfl⟩, h⟩
  · cases h
/-- b is led to from a, over one step or more -/
inductive Rch (f : Str → List Str) : Str → Str → Prop
  | one {a b : Str} : b ∈ f a → Rch f a b
  | more {a b c : Str} : Rch f a b → c ∈ f b → Rch f a c
theorem Rch.trans {f : Str → List Str} {a b c : Str} (h1 : Rch f a b) (h2 : Rch f b c) : Rch f a c := by
  induction h2 with
  | one h => exact .more h1 h
  | more _ h ih => exact .more ih h
theorem Rch.head {f : Str → List Str} {a b c : Str} (h1 : b ∈ f a) (h2 : Rch f b c) : Rch f a c := Rch.trans (.one h1) h2
theorem Rch.uni {m : LM} {a b : Str} (h : Rch (lof m) a b) : b ∈ uni m := by
  cases h with
  | one h => exact lof_uni h
  | more _ h => exact lof_uni h
/-- a set that holds what the first leans on and is closed holds all that is led to -/
theorem Rch.closed {f : Str → List Str} {S : Str → Prop} {a b : Str} (h0 : ∀ x ∈ f a, S x) (hs : ∀ x, S x → ∀ y ∈ f x, S y) (h : Rch f a b) : S b := by
  induction h with
  | one h => exact h0 _ h
  | more _ h ih => exact hs _ ih _ h
theorem nodup_sub : ∀ {l u : List Str}, l.Nodup → (∀ x ∈ l, x ∈ u) → l.length ≤ u.length
  | [], _, _, _ => Nat.zero_le _
  | a :: l, u, nd, h => by
    rw [List.nodup_cons] at nd
    have ha := h a List.mem_cons_self
    have ih := nodup_sub (l := l) (u := u.erase a) nd.2 fun x hx => (List.mem_erase_of_ne (fun e => nd.1 (by rw [← e]; exact hx))).mpr (h x (List.mem_cons_of_mem _ hx))
    rw [List.length_erase_of_mem ha] at ih
    have := List.length_pos_of_mem ha
    rw [List.length_cons]
    omega
/-- what is found and what waits, while it is looked where a name leads -/
structure Seek (m : LM) (s : Str) (fd wt : List Str) : Prop where
  nd : fd.Nodup
  rf : ∀ x ∈ fd, Rch (lof m) s x
  rw : ∀ x ∈ wt, Rch (lof m) s x
  c0 : ∀ x ∈ lof m s, x ∈ fd ∨ x ∈ wt
  c1 : ∀ x ∈ fd, ∀ y ∈ lof m x, y ∈ fd ∨ y ∈ wt
  ln : wt.length ≤ (fd.length + 1) * tot m
theorem Seek.start (m : LM) (s : Str) : Seek m s [] (lof m s) :=
  ⟨List.nodup_nil, fun x h => (by cases h), fun x h => .one h, fun x h => .inr h, fun x h => (by cases h), by have := lof_len m s; simp; omega⟩
theorem Seek.fl {m : LM} {s : Str} {fd wt : List Str} (h : Seek m s fd wt) : fd.length ≤ tot m := by
  rw [← uni_len]
  exact nodup_sub h.nd fun x hx => (h.rf x hx).uni
theorem mem_dl {l : List Str} {x : Str} (h : x ∈ l.dropLast) : x ∈ l := (List.dropLast_sublist l).subset h
theorem mem_last {wt : List Str} {o : Str} (e : wt[wt.length - 1]? = some o) {x : Str} (h : x ∈ wt) : x ∈ wt.dropLast ∨ x = o := by
  have hne : wt ≠ [] := fun z => by subst z; cases h
  have hl : wt.getLast hne = o := by
    rw [List.getLast_eq_getElem]
    have := (List.getElem?_eq_some_iff.mp e).2
    exact this
  rw [← List.dropLast_concat_getLast hne, hl] at h
  rcases List.mem_append.mp h with q | q
  · exact .inl q
  · exact .inr (List.mem_singleton.mp q)
theorem Seek.skip {m : LM} {s : Str} {fd wt : List Str} {o : Str} (h : Seek m s fd wt) (e : wt[wt.length - 1]? = some o) (ho : o ∈ fd) : Seek m s fd wt.dropLast :=
  ⟨h.nd, h.rf, fun x hx => h.rw x (mem_dl hx), fun x hx => (h.c0 x hx).elim .inl fun q => (mem_last e q).elim .inr fun z => .inl (by rw [z]; exact ho),
    fun x hx y hy => (h.c1 x hx y hy).elim .inl fun q => (mem_last e q).elim .inr fun z => .inl (by rw [z]; exact ho), by have := h.ln; rw [List.length_dropLast]; omega⟩
theorem Seek.step {m : LM} {s : Str} {fd wt : List Str} {o : Str} (h : Seek m s fd wt) (e : wt[wt.length - 1]? = some o) (ho : o ∉ fd) : Seek m s (fd ++ [o]) (wt.dropLast ++ lof m o) := by
  have hm : o ∈ wt := List.mem_of_getElem? e
  have ro := h.rw o hm
  refine ⟨?_, fun x hx => ?_, fun x hx => ?_, fun x hx => ?_, fun x hx y hy => ?_, ?_⟩
  · rw [List.nodup_append]
    exact ⟨h.nd, by simp, fun a ha b hb z => ho (by rw [List.mem_singleton.mp hb] at z; rw [← z]; exact ha)⟩
  · rcases List.mem_append.mp hx with q | q
    · exact h.rf x q
    · rw [List.mem_singleton.mp q]; exact ro
  · rcases List.mem_append.mp hx with q | q
    · exact h.rw x (mem_dl q)
    · exact .more ro q
  · rcases h.c0 x hx with q | q
    · exact .inl (List.mem_append_left _ q)
    · rcases mem_last e q with z | z
      · exact .inr (List.mem_append_left _ z)
      · exact .inl (List.mem_append_right _ (by rw [z]; exact List.mem_singleton.mpr rfl))
  · rcases List.mem_append.mp hx with q | q
    · rcases h.c1 x q y hy with r | r
      · exact .inl (List.mem_append_left _ r)
      · rcases mem_last e r with z | z
        · exact .inr (List.mem_append_left _ z)
        · exact .inl (List.mem_append_right _ (by rw [z]; exact List.mem_singleton.mpr rfl))
    · rw [List.mem_singleton.mp q] at hy
      exact .inr (List.mem_append_right _ hy)
  · have h1 := h.ln
    have h2 := lof_len m o
    have h3 := List.length_pos_of_mem hm
    rw [List.length_append, List.length_dropLast, List.length_append, List.length_singleton, Nat.add_mul (fd.length + 1) 1]
    omega
theorem Seek.done {m : LM} {s : Str} {fd : List Str} (h : Seek m s fd []) (x : Str) : x ∈ fd ↔ Rch (lof m) s x :=
  ⟨h.rf x, fun r => r.closed (S := fun x => x ∈ fd) (fun y hy => (h.c0 y hy).resolve_right (by simp)) (fun y hy z hz => (h.c1 y hy z hz).resolve_right (by simp))⟩
/-- what a while of that search is measured by -/
def seekM (m : LM) (fd wt : List Str) : Nat := (tot m - fd.length) * (tot m + 1) + wt.length
theorem seekM_skip {m : LM} {fd wt : List Str} {o : Str} (e : wt[wt.length - 1]? = some o) : seekM m fd wt.dropLast < seekM m fd wt := by
  have := List.length_pos_of_mem (List.mem_of_getElem? e)
  unfold seekM
  rw [List.length_dropLast]
  omega
theorem seekM_step {m : LM} {s : Str} {fd wt : List Str} {o : Str} (h : Seek m s fd wt) (e : wt[wt.length - 1]? = some o) (ho : o ∉ fd) : seekM m (fd ++ [o]) (wt.dropLast ++ lof m o) < seekM m fd wt := by
  have h1 := (h.step e ho).fl
  have h2 := lof_len m o
  have h3 := List.length_pos_of_mem (List.mem_of_getElem? e)
  unfold seekM
  rw [List.length_append, List.length_singleton] at h1 ⊢
  rw [List.length_append, List.length_dropLast]
  have e1 : tot m - fd.length = (tot m - (fd.length + 1)) + 1 := by omega
  rw [e1, Nat.add_mul, Nat.one_mul]
  omega
/-- the dict stands there, its lists too -/
structure LAt (H : Hp) (D : Addr) (m : LM) : Prop where
  d : H D = some (.dK (kvL m))
  l : ∀ p ∈ m, H p.2.1 = some (.lst (p.2.2.map V.str))
theorem LAt.mono {H H' : Hp} {D : Addr} {m : LM} (h : LAt H D m) (s : Same H H') : LAt H' D m := ⟨s _ _ h.d, fun p hp => s _ _ (h.l p hp)⟩
/-- the dict is to be read there, locked or not -/
structure LRd (H : Hp) (D : Addr) (m : LM) : Prop where
  d : Rd H D (.dK (kvL m))
  l : ∀ p ∈ m, H p.2.1 = some (.lst (p.2.2.map V.str))
theorem LAt.rd {H : Hp} {D : Addr} {m : LM} (h : LAt H D m) : LRd H D m := ⟨.inl h.d, h.l⟩
theorem LRd.mono {H H' : Hp} {D : Addr} {m : LM} (h : LRd H D m) (s : Same H H') : LRd H' D m := ⟨h.d.elim (fun q => .inl (s _ _ q)) fun ⟨o, q⟩ => .inr ⟨o, s _ _ q⟩, fun p hp => s _ _ (h.l p hp)⟩
end Aw

namespace Aw
open PySem L2
/-! ### an ask: what holds on the way -/
structure RnOk (nm : Str) (r : Rn) : Prop where
  nm : r.nm = nm
  a0 : 0 ≤ r.an
  a1 : r.an ≤ 30
  rl : r.rd.length ≤ 1000
  rv : ∀ q ∈ r.rd, 0 ≤ q.2 ∧ q.2 ≤ 30
/-- the works of a knot that a work of it read in its last run -/
def inK (k : Kt) (a : Str) : List Str := ((ktRd k a).map (·.1)).filter fun b => decide (b ∈ akeys k.rn)
structure KtOk (k : Kt) : Prop where
  nd : (akeys k.rc).Nodup
  ke : akeys k.rn = akeys k.rc
  ne : ∀ p ∈ k.rn, p.2 ≠ [] ∧ ∀ r ∈ p.2, RnOk p.1 r
  inn : ∀ p ∈ k.rn, ∀ r ∈ p.2, ∀ q ∈ r.rd, q.1 ∈ akeys k.rn → 0 < q.2 → ∃ r' ∈ (alk k.rn q.1).getD [], q.2 ≤ r'.an
  sub : ∀ p ∈ k.rn, ∀ r ∈ p.2, ∀ q ∈ r.rd, q.1 ∈ (lastRd p.2).map (·.1)
  con : ∀ e ∈ akeys k.rn, ∀ w ∈ akeys k.rn, w = e ∨ Rch (inK k) e w
structure KeptOk (m : AL Kt) : Prop where
  nd : (akeys m).Nodup
  ok : ∀ p ∈ m, KtOk p.2
  self : ∀ p ∈ m, p.1 ∈ akeys p.2.rc
  all : ∀ p ∈ m, ∀ s ∈ akeys p.2.rc, alk m s = some p.2
theorem adels_keys {α : Type} : ∀ (l : List Str) (m : AL α) (z : Str), z ∈ akeys (l.foldl adel m) ↔ z ∈ akeys m ∧ z ∉ l
  | [], m, z => by simp
  | a :: l, m, z => by
    rw [List.foldl_cons, adels_keys l, mem_akeys_del, List.mem_cons, not_or, and_assoc]
theorem adels_alk {α : Type} : ∀ (l : List Str) (m : AL α) (z : Str), z ∉ l → alk (l.foldl adel m) z = alk m z
  | [], m, z, _ => rfl
  | a :: l, m, z, h => by
    rw [List.mem_cons, not_or] at h
    rw [List.foldl_cons, adels_alk l _ z h.2, alk_del, if_neg h.1]
theorem adels_some {α : Type} {l : List Str} {m : AL α} {z : Str} {x : α} (h : alk (l.foldl adel m) z = some x) : alk m z = some x ∧ z ∉ l := by
  have hz : z ∈ akeys (l.foldl adel m) := Decidable.by_contra fun c => by rw [alk_none.mpr c] at h; cases h
  have h2 := ((adels_keys l m z).mp hz).2
  rw [adels_alk l m z h2] at h
  exact ⟨h, h2⟩
theorem adels_nodup {α : Type} : ∀ (l : List Str) (m : AL α), (akeys m).Nodup → (akeys (l.foldl adel m)).Nodup
  | [], m, h => h
  | a :: l, m, h => adels_nodup l _ (anodup_del h a)
theorem alk_in {α : Type} {m : AL α} {s : Str} (h : s ∈ akeys m) : ∃ x, alk m s = some x := Option.ne_none_iff_exists'.mp fun w => alk_none.mp w h
theorem in_alk {α : Type} {m : AL α} {s : Str} {x : α} (h : alk m s = some x) : s ∈ akeys m := Decidable.by_contra fun c => by rw [alk_none.mpr c] at h; cases h
theorem KeptOk.get {m : AL Kt} (h : KeptOk m) {s : Str} {k : Kt} (e : alk m s = some k) : KtOk k ∧ s ∈ akeys k.rc ∧ ∀ z ∈ akeys k.rc, alk m z = some k := ⟨h.ok _ (alk_mem e), h.self _ (alk_mem e), h.all _ (alk_mem e)⟩
theorem KeptOk.del {m : AL Kt} (h : KeptOk m) {s : Str} {k : Kt} (e : alk m s = some k) : KeptOk ((akeys k.rc).foldl adel m) := by
  have nd := adels_nodup (akeys k.rc) m h.nd
  have back : ∀ p ∈ (akeys k.rc).foldl adel m, p ∈ m ∧ p.1 ∉ akeys k.rc := fun p hp => by
    have e1 := mem_alk nd hp
    obtain ⟨a, b⟩ := adels_some e1
    exact ⟨alk_mem a, b⟩
  refine ⟨nd, fun p hp => h.ok p (back p hp).1, fun p hp => h.self p (back p hp).1, fun p hp z hz => ?_⟩
  obtain ⟨hm, hn⟩ := back p hp
  have ez := h.all p hm z hz
  have zn : z ∉ akeys k.rc := fun c => by
    have e2 := (h.get e).2.2 z c
    rw [ez] at e2
    have e3 : p.2 = k := Option.some.inj e2
    exact hn (by rw [← e3]; exact h.self p hm)
  rw [adels_alk _ _ _ zn]
  exact ez
section
variable (nums : AL Int) (recs : AL T)
structure RecOk : Prop where
  nd : (akeys recs).Nodup
  wf : ∀ p ∈ recs, WF p.2 ∧ (named p.2).length ≤ 1000
structure NumOk : Prop where
  rg : ∀ s, 0 ≤ numOf nums s ∧ numOf nums s ≤ 30
/-- what it stands at is settled, or comes of runs alone -/
def Fx (st : Ak) (s : Str) : Prop := s ∉ akeys recs ∨ s ∈ akeys st.set ∨ (s ∈ akeys st.place ∧ s ∉ akeys st.kept)
def fnR (rd : List (Str × Int)) (s : Str) : Int := (alk rd s).getD 0
structure AkInv (st : Ak) : Prop where
  kp : KeptOk st.kept
  rd : (akeys st.ran).Nodup
  pd : (akeys st.place).Nodup
  pr : ∀ s ∈ akeys st.place, s ∈ akeys recs
  pv : ∀ (i : Nat) (s : Str) (v : Int), st.place[i]? = some (s, v) → v = i
  lk : akeys st.low = akeys st.place
  l0 : ∀ s, 0 ≤ lw st s
  rp : ∀ s ∈ akeys st.ran, s ∈ akeys st.place ∧ s ∉ akeys st.kept
  rn : ∀ p ∈ st.ran, p.2 ≠ [] ∧ ∀ r ∈ p.2, RnOk p.1 r
  sd : (akeys st.set).Nodup
  sk : ∀ s ∈ akeys st.set, s ∈ akeys recs ∧ (s ∈ akeys st.ran ∨ s ∈ akeys st.kept)
  sg : ∀ s ∈ akeys st.set, ∀ k, alk st.kept s = some k → ∀ z ∈ akeys k.rc, z ∈ akeys st.set
  s1 : ∀ p ∈ st.ran, ∀ q ∈ lastRd p.2, q.2 ≤ stM nums recs st q.1
  cs : ∀ p ∈ st.ran, (∀ q ∈ lastRd p.2, fnR (lastRd p.2) q.1 = q.2) ∧ lastA p.2 = ev (fnR (lastRd p.2)) (recOf recs p.1) ∧ (lastRd p.2).map (·.1) = rdn (fnR (lastRd p.2)) (recOf recs p.1)
  lp : ∀ y ∈ akeys st.place, lw st y ≤ plc st y
  rb : ∀ p ∈ st.ran, ∀ r ∈ p.2, ∀ q ∈ r.rd, q.1 ∈ (lastRd p.2).map (·.1) ∧ q.2 ≤ stM nums recs st q.1
  rl : ∀ p ∈ st.ran, p.2.length ≤ st.ended.length
def known (st : Ak) (s y : Str) : Nat := match alk st.ran s with
  | none => 0
  | some rs => match alk (lastRd rs) y with
    | none => 0
    | some v => (v + 1).toNat
/-- how much is left to be known of a work -/
def phi1 (st : Ak) (s : Str) : Nat := if s ∈ akeys st.ran then ((unames recs).map fun y => 31 - known st s y).sum else 31 * (unames recs).length + 1
structure EffX (ex : Str → Prop) (st st' : Ak) : Prop where
  cst : ∀ y, Fx recs st y → ¬ ex y → stM nums recs st' y = stM nums recs st y
  mono : ∀ y, stM nums recs st y ≤ stM nums recs st' y
  fx : ∀ y, Fx recs st y → Fx recs st' y
  pl : ∃ z, st'.place = st.place ++ z
  se : ∀ y ∈ akeys st.set, y ∈ akeys st'.set
  kp : ∀ y x, alk st'.kept y = some x → alk st.kept y = some x
  rn : ∀ y ∈ akeys st.place, ¬ ex y → alk st'.ran y = alk st.ran y
  rs : ∀ y ∈ akeys st.ran, y ∈ akeys st'.ran
  ph : ∀ s, phi1 recs st' s ≤ phi1 recs st s
  ns : ∀ y ∈ akeys st.set, y ∉ akeys st.place → y ∉ akeys st'.place
variable {nums recs}
theorem EffX.refl (ex : Str → Prop) (st : Ak) : EffX nums recs ex st st := ⟨fun _ _ _ => rfl, fun _ => Int.le_refl _, fun _ h => h, ⟨[], (List.append_nil _).symm⟩, fun _ h => h, fun _ _ h => h, fun _ _ _ => rfl, fun _ h => h, fun _ => Nat.le_refl _, fun _ _ h => h⟩
theorem EffX.trans {ex : Str → Prop} {a b c : Ak} (h : EffX nums recs ex a b) (k : EffX nums recs ex b c) : EffX nums recs ex a c := by
  obtain ⟨z, ez⟩ := h.pl
  obtain ⟨w, ew⟩ := k.pl
  refine ⟨fun y f n => (k.cst y (h.fx y f) n).trans (h.cst y f n), fun y => Int.le_trans (h.mono y) (k.mono y), fun y f => k.fx y (h.fx y f), ⟨z ++ w, by rw [ew, ez, List.append_assoc]⟩, fun y f => k.se y (h.se y f), fun y x e => h.kp y x (k.kp y x e), fun y hy n => ?_, fun y f => k.rs y (h.rs y f), fun y => Nat.le_trans (k.ph y) (h.ph y), fun y f n => k.ns y (h.se y f) (h.ns y f n)⟩
  have hy2 : y ∈ akeys b.place := by unfold akeys at hy ⊢; rw [ez, List.map_append]; exact List.mem_append_left _ hy
  exact (k.rn y hy2 n).trans (h.rn y hy n)
theorem EffX.wide {ex ex' : Str → Prop} {a b : Ak} (h : EffX nums recs ex a b) (i : ∀ y, ex y → ex' y) : EffX nums recs ex' a b := ⟨fun y f n => h.cst y f fun w => n (i y w), h.mono, h.fx, h.pl, h.se, h.kp, fun y f n => h.rn y f fun w => n (i y w), h.rs, h.ph, h.ns⟩
theorem EffX.plm {ex : Str → Prop} {a b : Ak} (h : EffX nums recs ex a b) {y : Str} (hy : y ∈ akeys a.place) : y ∈ akeys b.place := by
  obtain ⟨z, ez⟩ := h.pl
  unfold akeys at hy ⊢
  rw [ez, List.map_append]
  exact List.mem_append_left _ hy
theorem EffX.kn {ex : Str → Prop} {a b : Ak} (h : EffX nums recs ex a b) {y : Str} (hy : y ∉ akeys a.kept) : y ∉ akeys b.kept := fun c => by
  obtain ⟨x, e⟩ := alk_in c
  exact hy (in_alk (h.kp y x e))
theorem alk_append_left {α : Type} {a b : AL α} {s : Str} (h : s ∈ akeys a) : alk (a ++ b) s = alk a s := by
  induction a with
  | nil => cases h
  | cons p r ih =>
    rw [List.cons_append]
    by_cases c : p.1 = s
    · rw [alk_pos c, alk_pos c]
    · rw [alk_neg c, alk_neg c]
      exact ih ((List.mem_cons.mp h).resolve_left fun z => c z.symm)
theorem EffX.plc {ex : Str → Prop} {a b : Ak} (h : EffX nums recs ex a b) {y : Str} (hy : y ∈ akeys a.place) : plc b y = plc a y := by
  obtain ⟨z, ez⟩ := h.pl
  unfold Aw.plc
  rw [ez, alk_append_left hy]
/-! what it stands at -/
theorem lastA_rng {nm : Str} {rs : List Rn} (h : ∀ r ∈ rs, RnOk nm r) : 0 ≤ lastA rs ∧ lastA rs ≤ 30 := by
  unfold lastA
  cases e : rs.getLast? with
  | none => exact ⟨by decide, by decide⟩
  | some r =>
    have hr := List.mem_of_getLast? e
    exact ⟨(h r hr).a0, (h r hr).a1⟩
theorem ktAns_rng {k : Kt} (h : KtOk k) (s : Str) : 0 ≤ ktAns k s ∧ ktAns k s ≤ 30 := by
  unfold ktAns
  cases e : alk k.rn s with
  | none => exact ⟨by decide, by decide⟩
  | some rs => exact lastA_rng (h.ne _ (alk_mem e)).2
theorem stM_rng {st : Ak} (hn : NumOk nums) (i : AkInv nums recs st) (s : Str) : 0 ≤ stM nums recs st s ∧ stM nums recs st s ≤ 30 := by
  unfold stM
  cases e : alk st.ran s with
  | some rs => exact lastA_rng (i.rn _ (alk_mem e)).2
  | none =>
    dsimp only
    split
    · exact hn.rg s
    · split
      · cases e2 : alk st.kept s with
        | none => exact ⟨Int.le_refl 0, show (0 : Int) ≤ 30 by decide⟩
        | some k => exact ktAns_rng (i.kp.get e2).1 s
      · exact ⟨by decide, by decide⟩
/-- none that is not fixed stands above 0 -/
theorem stM_zero {st : Ak} (i : AkInv nums recs st) {s : Str} (h : ¬ Fx recs st s) : stM nums recs st s = 0 := by
  unfold Fx at h
  have h1 : s ∈ akeys recs := Decidable.by_contra fun c => h (.inl c)
  have h2 : s ∉ akeys st.set := fun c => h (.inr (.inl c))
  unfold stM
  cases e : alk st.ran s with
  | some rs => exact absurd (.inr (.inr (i.rp s (in_alk e)))) h
  | none =>
    dsimp only
    rw [if_neg (fun z => z h1), if_neg h2]
/-- what stands the same where ran, settled, kept are the same -/
theorem stM_congr {st st' : Ak} {s : Str} (h1 : alk st'.ran s = alk st.ran s) (h2 : s ∈ akeys st'.set ↔ s ∈ akeys st.set) (h3 : alk st'.kept s = alk st.kept s) : stM nums recs st' s = stM nums recs st s := by
  unfold stM
  rw [h1]
  cases alk st.ran s with
  | some rs => rfl
  | none =>
    dsimp only
    split
    · rfl
    · by_cases c : s ∈ akeys st.set
      · rw [if_pos c, if_pos (h2.mpr c), h3]
      · rw [if_neg c, if_neg (fun z => c (h2.mp z))]
/-! let go -/
theorem goM_kept {st : Ak} {s : Str} {k : Kt} (e : alk st.kept s = some k) : goM st s = { st with kept := (akeys k.rc).foldl adel st.kept } := by
  unfold goM
  rw [e]
theorem goM_none {st : Ak} {s : Str} (e : alk st.kept s = none) : goM st s = st := by
  unfold goM
  rw [e]
theorem go_ok {st : Ak} (i : AkInv nums recs st) {s : Str} (hs : s ∉ akeys st.set) : AkInv nums recs (goM st s) ∧ EffX nums recs (fun _ => False) st (goM st s) ∧ s ∉ akeys (goM st s).kept ∧ (goM st s).place = st.place ∧ (goM st s).ran = st.ran ∧ (goM st s).set = st.set ∧ (goM st s).low = st.low ∧ (goM st s).ended = st.ended := by
  cases e : alk st.kept s with
  | none =>
    rw [goM_none e]
    exact ⟨i, .refl _ _, alk_none.mp e, rfl, rfl, rfl, rfl, rfl⟩
  | some k =>
    rw [goM_kept e]
    obtain ⟨ok, self, all⟩ := i.kp.get e
    have key : ∀ y, y ∈ akeys ((akeys k.rc).foldl adel st.kept) ↔ y ∈ akeys st.kept ∧ y ∉ akeys k.rc := adels_keys (akeys k.rc) st.kept
    have sn : ∀ y ∈ akeys k.rc, y ∉ akeys st.set := fun y hy c => hs (i.sg y c k (all y hy) s self)
    have st_ : ∀ y, stM nums recs { st with kept := (akeys k.rc).foldl adel st.kept } y = stM nums recs st y := fun y => by
      by_cases c : y ∈ akeys k.rc
      · have h2 := sn y c
        unfold stM
        cases alk st.ran y with
        | some rs => rfl
        | none =>
          dsimp only
          split
          · rfl
          · first | rfl | simp [h2]
      · exact stM_congr rfl Iff.rfl (adels_alk _ _ _ c)
    refine ⟨⟨i.kp.del e, i.rd, i.pd, i.pr, i.pv, i.lk, i.l0, fun y hy => ⟨(i.rp y hy).1, fun c => (i.rp y hy).2 ((key y).mp c).1⟩, i.rn, i.sd, fun y hy => ⟨(i.sk y hy).1, (i.sk y hy).2.imp id fun q => (key y).mpr ⟨q, fun c => sn y c hy⟩⟩, fun y hy k' e' => ?_, fun p hp q hq => ?_, i.cs, i.lp, fun p hp r hr q hq => ⟨(i.rb p hp r hr q hq).1, by rw [st_]; exact (i.rb p hp r hr q hq).2⟩, i.rl⟩, ⟨fun y _ _ => st_ y, fun y => by rw [st_ y]; exact Int.le_refl _, fun y f => ?_, ⟨[], (List.append_nil _).symm⟩, fun _ h => h, fun y x e' => (adels_some e').1, fun _ _ _ => rfl, fun _ h => h, fun _ => Nat.le_refl _, fun _ _ h => h⟩, fun c => ((key s).mp c).2 self, rfl, rfl, rfl, rfl, rfl⟩
    · exact i.sg y hy k' (adels_some e').1
    · rw [st_]; exact i.s1 p hp q hq
    · rcases f with f | f | ⟨f1, f2⟩
      · exact .inl f
      · exact .inr (.inl f)
      · exact .inr (.inr ⟨f1, fun c => f2 ((key y).mp c).1⟩)
end
end Aw

namespace Aw
open PySem L2
section
variable {nums : AL Int} {recs : AL T}
/-- what stands the same, and is kept the same, whatever low is -/
theorem low_ok {st : Ak} (i : AkInv nums recs st) {r : Str} (hr : r ∈ akeys st.place) {x : Int} (hx : 0 ≤ x) (hx2 : x ≤ plc st r) : AkInv nums recs { st with low := aput st.low r x } ∧ ∀ ex, EffX nums recs ex st { st with low := aput st.low r x } := by
  have lk : akeys (aput st.low r x) = akeys st.place := by rw [akeys_put, if_pos (by rw [i.lk]; exact hr), i.lk]
  refine ⟨⟨i.kp, i.rd, i.pd, i.pr, i.pv, lk, fun s => ?_, i.rp, i.rn, i.sd, i.sk, i.sg, i.s1, i.cs, fun y hy => ?_, i.rb, i.rl⟩, fun ex => ⟨fun _ _ _ => rfl, fun _ => Int.le_refl _, fun _ h => h, ⟨[], (List.append_nil _).symm⟩, fun _ h => h, fun _ _ h => h, fun _ _ _ => rfl, fun _ h => h, fun _ => Nat.le_refl _, fun _ _ h => h⟩⟩
  · show 0 ≤ (alk (aput st.low r x) s).getD 0
    rw [alk_put]
    split
    · exact hx
    · exact i.l0 s
  · show (alk (aput st.low r x) y).getD 0 ≤ plc st y
    rw [alk_put]
    split
    · next e => rw [e]; exact hx2
    · exact i.lp y hy
theorem place_ok {st : Ak} (i : AkInv nums recs st) {s : Str} (hs : s ∈ akeys recs) (hp : s ∉ akeys st.place) (hns : s ∉ akeys st.set) : AkInv nums recs (placeM st s) ∧ EffX nums recs (fun _ => False) st (placeM st s) ∧ s ∈ akeys (placeM st s).place ∧ (placeM st s).kept = st.kept ∧ (placeM st s).ran = st.ran ∧ (placeM st s).set = st.set ∧ (placeM st s).place = st.place ++ [(s, (st.place.length : Int))] := by
  have pe : aput st.place s ((st.place.length : Nat) : Int) = st.place ++ [(s, ((st.place.length : Nat) : Int))] := by unfold aput; rw [if_neg hp]
  have pk : akeys (aput st.place s ((st.place.length : Nat) : Int)) = akeys st.place ++ [s] := by rw [akeys_put, if_neg hp]
  have sub : ∀ y, y ∈ akeys (placeM st s).place ↔ y ∈ akeys st.place ∨ y = s := fun y => mem_akeys_put
  refine ⟨⟨i.kp, i.rd, anodup_put i.pd _ _, fun y hy => ?_, fun j y v hy => ?_, ?_, fun y => ?_, fun y hy => ⟨(sub y).mpr (.inl (i.rp y hy).1), (i.rp y hy).2⟩, i.rn, i.sd, i.sk, i.sg, i.s1, i.cs, fun y hy => ?_, i.rb, i.rl⟩, ⟨fun _ _ _ => rfl, fun _ => Int.le_refl _, fun y f => ?_, ⟨_, pe⟩, fun _ h => h, fun _ _ h => h, fun _ _ _ => rfl, fun _ h => h, fun _ => Nat.le_refl _, fun y h n c => ((sub y).mp c).elim n fun e => hns (by rw [← e]; exact h)⟩, (sub s).mpr (.inr rfl), rfl, rfl, rfl, pe⟩
  · rcases (sub y).mp hy with q | q
    · exact i.pr y q
    · rw [q]; exact hs
  · have hy' : (st.place ++ [(s, ((st.place.length : Nat) : Int))])[j]? = some (y, v) := by rw [← pe]; exact hy
    by_cases c : j < st.place.length
    · rw [List.getElem?_append_left c] at hy'
      exact i.pv j y v hy'
    · rw [List.getElem?_append_right (by omega)] at hy'
      have : j - st.place.length = 0 := Decidable.by_contra fun z => by
        rw [List.getElem?_eq_none (by simp; omega)] at hy'
        cases hy'
      rw [this] at hy'
      cases hy'
      omega
  · show akeys (aput st.low s _) = akeys (aput st.place s _)
    rw [akeys_put, if_neg (by rw [i.lk]; exact hp), pk, i.lk]
  · show 0 ≤ (alk (aput st.low s _) y).getD 0
    rw [alk_put]
    split
    · exact Int.natCast_nonneg _
    · exact i.l0 y
  · show (alk (aput st.low s ((st.place.length : Nat) : Int)) y).getD 0 ≤ (alk (aput st.place s ((st.place.length : Nat) : Int)) y).getD 0
    rw [alk_put, alk_put]
    split
    · exact Int.le_refl _
    · next e => exact i.lp y (((sub y).mp hy).resolve_right e)
  · rcases f with f | f | ⟨f1, f2⟩
    · exact .inl f
    · exact .inr (.inl f)
    · exact .inr (.inr ⟨(sub y).mpr (.inl f1), f2⟩)
/-! ### settled -/
theorem mem_aputs {α : Type} (x : α) : ∀ (l : List Str) (m : AL α) (z : Str), z ∈ akeys (l.foldl (fun m s => aput m s x) m) ↔ z ∈ akeys m ∨ z ∈ l
  | [], m, z => by simp
  | a :: l, m, z => by
    rw [List.foldl_cons, mem_aputs x l, mem_akeys_put, List.mem_cons]
    exact ⟨fun h => h.elim (fun h => h.elim .inl fun e => .inr (.inl e)) fun h => .inr (.inr h), fun h => h.elim (fun h => .inl (.inl h)) fun h => h.elim (fun e => .inl (.inr e)) .inr⟩
theorem nodup_aputs {α : Type} (x : α) : ∀ (l : List Str) (m : AL α), (akeys m).Nodup → (akeys (l.foldl (fun m s => aput m s x) m)).Nodup
  | [], m, h => h
  | a :: l, m, h => nodup_aputs x l _ (anodup_put h a x)
theorem mem_setAll {st : Ak} {l : List Str} {z : Str} : z ∈ akeys (setAll st l).set ↔ z ∈ akeys st.set ∨ z ∈ l := mem_aputs () l st.set z
/-- settled: all of l ran, or is a kept knot -/
theorem set_ok {st : Ak} (hn : NumOk nums) (i : AkInv nums recs st) {l : List Str} (h1 : ∀ z ∈ l, z ∈ akeys recs ∧ (z ∈ akeys st.ran ∨ z ∈ akeys st.kept)) (h2 : ∀ z ∈ l, ∀ k, alk st.kept z = some k → ∀ y ∈ akeys k.rc, y ∈ l ∨ y ∈ akeys st.set) (h3 : ∀ z ∈ l, z ∈ akeys st.ran ∨ ¬ Fx recs st z ∨ z ∈ akeys st.set) :
    AkInv nums recs (setAll st l) ∧ EffX nums recs (fun _ => False) st (setAll st l) := by
  have st_ : ∀ y, (y ∉ l ∨ y ∈ akeys st.ran ∨ y ∈ akeys st.set) → stM nums recs (setAll st l) y = stM nums recs st y := fun y c => by
    unfold stM
    show (match alk st.ran y with | some rs => lastA rs | none => _) = _
    cases e : alk st.ran y with
    | some rs => rfl
    | none =>
      dsimp only
      have c' : y ∉ l ∨ y ∈ akeys st.set := by
        rcases c with c | c | c
        · exact .inl c
        · exact absurd c (alk_none.mp e)
        · exact .inr c
      have q : y ∈ akeys (setAll st l).set ↔ y ∈ akeys st.set := by
        rw [mem_setAll]
        exact ⟨fun h => h.elim id fun z => c'.elim (fun w => absurd z w) id, .inl⟩
      split
      · rfl
      · by_cases d : y ∈ akeys st.set
        · rw [if_pos d, if_pos (q.mpr d)]; rfl
        · rw [if_neg d, if_neg (fun z => d (q.mp z))]
  have ks : KeptOk (setAll st l).kept := i.kp
  have rng : ∀ y, 0 ≤ stM nums recs (setAll st l) y := fun y => by
    unfold stM
    show 0 ≤ (match alk st.ran y with | some rs => lastA rs | none => _)
    cases e : alk st.ran y with
    | some rs => exact (lastA_rng (i.rn _ (alk_mem e)).2).1
    | none =>
      dsimp only
      split
      · exact (hn.rg y).1
      · split
        · show 0 ≤ (match alk st.kept y with | some k => ktAns k y | none => 0)
          cases e2 : alk st.kept y with
          | none => exact Int.le_refl 0
          | some k => exact (ktAns_rng (i.kp.get e2).1 y).1
        · exact Int.le_refl 0
  have mono : ∀ y, stM nums recs st y ≤ stM nums recs (setAll st l) y := fun y => by
    by_cases c : y ∈ l
    · rcases h3 y c with q | q | q
      · rw [st_ y (.inr (.inl q))]; exact Int.le_refl _
      · rw [stM_zero i q]; exact rng y
      · rw [st_ y (.inr (.inr q))]; exact Int.le_refl _
    · rw [st_ y (.inl c)]; exact Int.le_refl _
  refine ⟨⟨i.kp, i.rd, i.pd, i.pr, i.pv, i.lk, i.l0, i.rp, i.rn, nodup_aputs () l _ i.sd, fun y hy => ?_, fun y hy k e z hz => ?_, fun p hp q hq => Int.le_trans (i.s1 p hp q hq) (mono q.1), i.cs, i.lp, fun p hp r hr q hq => ⟨(i.rb p hp r hr q hq).1, Int.le_trans (i.rb p hp r hr q hq).2 (mono q.1)⟩, i.rl⟩, ⟨fun y f n => ?_, mono, fun y f => ?_, ⟨[], (List.append_nil _).symm⟩, fun y h => mem_setAll.mpr (.inl h), fun _ _ h => h, fun _ _ _ => rfl, fun _ h => h, fun _ => Nat.le_refl _, fun _ _ h => h⟩⟩
  · rcases mem_setAll.mp hy with q | q
    · exact i.sk y q
    · exact h1 y q
  · rcases mem_setAll.mp hy with q | q
    · exact mem_setAll.mpr (.inl (i.sg y q k e z hz))
    · exact mem_setAll.mpr ((h2 y q k e z hz).symm)
  · by_cases c : y ∈ l
    · rcases h3 y c with q | q | q
      · exact st_ y (.inr (.inl q))
      · exact absurd f q
      · exact st_ y (.inr (.inr q))
    · exact st_ y (.inl c)
  · rcases f with f | f | f
    · exact .inl f
    · exact .inr (.inl (mem_setAll.mpr (.inl f)))
    · exact .inr (.inr f)
/-! ### names unplaced -/
def unpl (recs : AL T) (st : Ak) : Nat := ((akeys recs).filter fun s => decide (s ∉ akeys st.place)).length
theorem filt_le {p q : Str → Bool} {l : List Str} (h : ∀ s ∈ l, p s = true → q s = true) : (l.filter p).length ≤ (l.filter q).length := by
  induction l with
  | nil => exact Nat.le_refl _
  | cons a r ih =>
    have ih' := ih fun s hs => h s (List.mem_cons_of_mem _ hs)
    by_cases c : p a = true
    · rw [List.filter_cons_of_pos c, List.filter_cons_of_pos (h a List.mem_cons_self c), List.length_cons, List.length_cons]; omega
    · rw [List.filter_cons_of_neg c]
      by_cases d : q a = true
      · rw [List.filter_cons_of_pos d, List.length_cons]; omega
      · rw [List.filter_cons_of_neg d]; exact ih'
theorem filt_lt {p q : Str → Bool} {l : List Str} (h : ∀ s ∈ l, p s = true → q s = true) {x : Str} (hx : x ∈ l) (h1 : p x ≠ true) (h2 : q x = true) : (l.filter p).length < (l.filter q).length := by
  induction l with
  | nil => cases hx
  | cons a r ih =>
    have le := filt_le (p := p) (q := q) (l := r) fun s hs => h s (List.mem_cons_of_mem _ hs)
    rcases List.mem_cons.mp hx with e | e
    · subst e
      rw [List.filter_cons_of_neg h1, List.filter_cons_of_pos h2, List.length_cons]
      omega
    · have ih' := ih (fun s hs => h s (List.mem_cons_of_mem _ hs)) e
      by_cases c : p a = true
      · rw [List.filter_cons_of_pos c, List.filter_cons_of_pos (h a List.mem_cons_self c), List.length_cons, List.length_cons]; omega
      · rw [List.filter_cons_of_neg c]
        by_cases d : q a = true
        · rw [List.filter_cons_of_pos d, List.length_cons]; omega
        · rw [List.filter_cons_of_neg d]; exact ih'
theorem unpl_le {st st' : Ak} (h : ∀ y ∈ akeys st.place, y ∈ akeys st'.place) : unpl recs st' ≤ unpl recs st := filt_le fun s _ c => decide_eq_true fun z => (of_decide_eq_true c) (h s z)
theorem unpl_lt {st st' : Ak} (h : ∀ y ∈ akeys st.place, y ∈ akeys st'.place) {x : Str} (h1 : x ∈ akeys recs) (h2 : x ∉ akeys st.place) (h3 : x ∈ akeys st'.place) : unpl recs st' < unpl recs st :=
  filt_lt (fun s _ c => decide_eq_true fun z => (of_decide_eq_true c) (h s z)) h1 (by simpa using h3) (decide_eq_true h2)
theorem unpl_pos {st : Ak} {x : Str} (h1 : x ∈ akeys recs) (h2 : x ∉ akeys st.place) : 0 < unpl recs st := List.length_pos_of_mem (List.mem_filter.mpr ⟨h1, decide_eq_true h2⟩)
/-! ### coming to a name -/
/-- what was placed is run or settled -/
def NW (st st' : Ak) : Prop := ∀ y ∈ akeys st'.place, y ∉ akeys st.place → y ∈ akeys st'.ran ∨ y ∈ akeys st'.set
theorem NW.same {st st' : Ak} (h : st'.place = st.place) : NW st st' := fun y a b => absurd (by rw [← h]; exact a) b
theorem NW.trans {ex : Str → Prop} {a b c : Ak} (h : NW a b) (k : NW b c) (e : EffX nums recs ex b c) : NW a c := fun y y1 y2 => by
  by_cases d : y ∈ akeys b.place
  · exact (h y d y2).imp (e.rs y) (e.se y)
  · exact k y y1 d
variable (nums recs) in
/-- a begin does what it must, as long as no more than d are unplaced -/
structure BOk (d : Nat) (B : Ak → Str → Ak) : Prop where
  ok : ∀ st z, AkInv nums recs st → z ∈ akeys recs → z ∉ akeys st.place → z ∉ akeys st.set → unpl recs st ≤ d → AkInv nums recs (B st z) ∧ EffX nums recs (fun _ => False) st (B st z) ∧ Fx recs (B st z) z ∧ z ∈ akeys (B st z).place ∧ NW st (B st z)
theorem come_skip {B : Ak → Str → Ak} {st : Ak} {s r : Str} (h : s ∉ akeys recs ∨ s ∈ akeys st.set) : comeM recs B st s r = st := by
  unfold comeM
  rw [if_pos h]
theorem come_ok {d : Nat} {B : Ak → Str → Ak} (b : BOk nums recs d B) {st : Ak} (i : AkInv nums recs st) (hu : unpl recs st ≤ d) {s r : Str} (hr : r ∈ akeys st.place) :
    AkInv nums recs (comeM recs B st s r) ∧ EffX nums recs (fun _ => False) st (comeM recs B st s r) ∧ Fx recs (comeM recs B st s r) s ∧ (s ∈ akeys recs → s ∉ akeys st.set → s ∈ akeys (comeM recs B st s r).place) ∧ NW st (comeM recs B st s r) := by
  by_cases c : s ∉ akeys recs ∨ s ∈ akeys st.set
  · rw [come_skip c]
    refine ⟨i, .refl _ _, c.elim .inl fun z => .inr (.inl z), fun h1 h2 => absurd c (by simp [h1, h2]), .same rfl⟩
  · have c1 : s ∈ akeys recs := Decidable.by_contra fun z => c (.inl z)
    have c2 : s ∉ akeys st.set := fun z => c (.inr z)
    unfold comeM
    rw [if_neg c]
    dsimp only
    have key : ∀ st1, AkInv nums recs st1 → EffX nums recs (fun _ => False) st st1 → Fx recs st1 s → s ∈ akeys st1.place → NW st st1 →
        AkInv nums recs { st1 with low := aput st1.low r (min (lw st1 r) (lw st1 s)) } ∧ EffX nums recs (fun _ => False) st { st1 with low := aput st1.low r (min (lw st1 r) (lw st1 s)) } ∧ Fx recs { st1 with low := aput st1.low r (min (lw st1 r) (lw st1 s)) } s ∧ (s ∈ akeys recs → s ∉ akeys st.set → s ∈ akeys ({ st1 with low := aput st1.low r (min (lw st1 r) (lw st1 s)) } : Ak).place) ∧ NW st { st1 with low := aput st1.low r (min (lw st1 r) (lw st1 s)) } := by
      intro st1 i1 e1 f1 p1 w1
      have a := i1.l0 r
      have a' := i1.l0 s
      obtain ⟨i2, e2⟩ := low_ok i1 (e1.plm hr) (x := min (lw st1 r) (lw st1 s)) (by omega) (by have := i1.lp r (e1.plm hr); omega)
      exact ⟨i2, e1.trans (e2 _), f1, fun _ _ => p1, w1⟩
    by_cases p : s ∉ akeys st.place
    · rw [if_pos p]
      obtain ⟨h1, h2, h3, h4, h5⟩ := b.ok st s i c1 p c2 hu
      exact key _ h1 h2 h3 h4 h5
    · have p' : s ∈ akeys st.place := Decidable.by_contra p
      rw [if_neg p]
      by_cases k : s ∈ akeys st.kept
      · rw [if_pos k]
        obtain ⟨h1, h2, h3, h4, _⟩ := go_ok i c2
        refine key _ h1 h2 (.inr (.inr ⟨by rw [h4]; exact p', h3⟩)) (by rw [h4]; exact p') (.same h4)
      · rw [if_neg k]
        exact key _ i (.refl _ _) (.inr (.inr ⟨p', k⟩)) p' (.same rfl)
/-! ### a run's walk -/
structure Wk (nums : AL Int) (recs : AL T) (d : Nat) (name : Str) (x : AS) : Prop where
  i : AkInv nums recs x.1
  u : unpl recs x.1 ≤ d
  p : name ∈ akeys x.1.place
/-- what a part of the walk did -/
structure Did (nums : AL Int) (recs : AL T) (d : Nat) (name : Str) (x y : AS) (ns : List Str) (nr : List (Str × Int)) : Prop where
  w : Wk nums recs d name y
  e : EffX nums recs (fun _ => False) x.1 y.1
  rd : y.2 = x.2 ++ nr
  ok : ∀ q ∈ nr, Fx recs y.1 q.1 ∧ q.2 = stM nums recs y.1 q.1 ∧ 0 ≤ q.2 ∧ q.2 ≤ 30
  nm : nr.map (·.1) = ns
  nw : NW x.1 y.1
theorem Did.refl {d : Nat} {name : Str} {x : AS} (w : Wk nums recs d name x) : Did nums recs d name x x [] [] := ⟨w, .refl _ _, (List.append_nil _).symm, fun q h => (by cases h), rfl, .same rfl⟩
theorem Did.trans {d : Nat} {name : Str} {x y z : AS} {a b : List Str} {m n : List (Str × Int)} (h : Did nums recs d name x y a m) (k : Did nums recs d name y z b n) : Did nums recs d name x z (a ++ b) (m ++ n) := by
  refine ⟨k.w, h.e.trans k.e, by rw [k.rd, h.rd, List.append_assoc], fun q hq => ?_, by rw [List.map_append, h.nm, k.nm], h.nw.trans k.nw k.e⟩
  rcases List.mem_append.mp hq with c | c
  · obtain ⟨f, e, r⟩ := h.ok q c
    exact ⟨k.e.fx _ f, by rw [k.e.cst _ f (fun z => z)]; exact e, r⟩
  · exact k.ok q c
variable (hn : NumOk nums) {d : Nat} {B : Ak → Str → Ak} (b : BOk nums recs d B) (name : Str)
include hn b
theorem ask_did {x : AS} (w : Wk nums recs d name x) (s : Str) : Did nums recs d name x (askN nums recs B name x s) [s] [(s, askO nums recs B name x s)] := by
  obtain ⟨h1, h2, h3, _, h5⟩ := come_ok b w.i w.u (s := s) w.p
  have r := stM_rng hn h1 s
  exact ⟨⟨h1, Nat.le_trans (unpl_le fun y hy => h2.plm hy) w.u, h2.plm w.p⟩, h2, rfl, fun q hq => by rw [List.mem_singleton.mp hq]; exact ⟨h3, rfl, r.1, r.2⟩, rfl, h5⟩
/-- the value and the names of a part are those where all stands as it does behind it -/
theorem stay_ev {x y : AS} {t : T} {nr : List (Str × Int)} {n2 : List Str} {m2 : List (Str × Int)} {z : AS} (h : Did nums recs d name x y (rdn (stM nums recs y.1) t) nr) (k : Did nums recs d name y z n2 m2) : ev (stM nums recs z.1) t = ev (stM nums recs y.1) t ∧ rdn (stM nums recs z.1) t = rdn (stM nums recs y.1) t := by
  refine ev_congr t fun s hs => ?_
  rw [← h.nm] at hs
  obtain ⟨q, hq, e⟩ := List.mem_map.mp hs
  obtain ⟨f, _⟩ := h.ok q hq
  rw [e] at f
  exact (k.e.cst s f (fun z => z)).symm
mutual
theorem walk_t : ∀ (t : T) (x : AS), Wk nums recs d name x → ∃ nr, Did nums recs d name x (ans (askO nums recs B name) (askN nums recs B name) t x).2 (rdn (stM nums recs (ans (askO nums recs B name) (askN nums recs B name) t x).2.1) t) nr ∧
    (ans (askO nums recs B name) (askN nums recs B name) t x).1 = ev (stM nums recs (ans (askO nums recs B name) (askN nums recs B name) t x).2.1) t
  | .num k, x, w => by
    have e : ans (askO nums recs B name) (askN nums recs B name) (.num k) x = (k, x) := by unfold ans; rfl
    rw [e, rdn_num, ev_num]
    exact ⟨[], .refl w, rfl⟩
  | .name s, x, w => by
    have e : ans (askO nums recs B name) (askN nums recs B name) (.name s) x = (askO nums recs B name x s, askN nums recs B name x s) := by unfold ans; rfl
    rw [e, rdn_name, ev_name]
    exact ⟨_, ask_did hn b name w s, rfl⟩
  | .gate s bd t, x, w => by
    have D := ask_did hn b name w s
    have e : ans (askO nums recs B name) (askN nums recs B name) (.gate s bd t) x = if askO nums recs B name x s < bd then (0, askN nums recs B name x s) else ans (askO nums recs B name) (askN nums recs B name) t (askN nums recs B name x s) := by
      conv => lhs; unfold ans
    obtain ⟨f, eq, _⟩ := D.ok _ (List.mem_singleton.mpr rfl)
    dsimp only at f eq
    rw [e]
    by_cases c : askO nums recs B name x s < bd
    · rw [if_pos c, rdn_gate, ev_gate, ← eq, if_pos c, if_pos c]
      exact ⟨_, D, rfl⟩
    · rw [if_neg c]
      obtain ⟨nr, E, ea⟩ := walk_t t (askN nums recs B name x s) D.w
      have es : stM nums recs (ans (askO nums recs B name) (askN nums recs B name) t (askN nums recs B name x s)).2.1 s = askO nums recs B name x s := by rw [E.e.cst s f (fun z => z)]; exact eq.symm
      rw [rdn_gate, ev_gate, es, if_neg c, if_neg c]
      exact ⟨_, D.trans E, ea⟩
  | .join .sum ts, x, w => by
    obtain ⟨nr, E, ea⟩ := walk_s ts x w
    have e : ans (askO nums recs B name) (askN nums recs B name) (.join .sum ts) x = (min 30 (anss (askO nums recs B name) (askN nums recs B name) ts x).1.sum, (anss (askO nums recs B name) (askN nums recs B name) ts x).2) := by
      conv => lhs; unfold ans
    rw [e, rdn_sum, ev_sum, ← ea]
    exact ⟨nr, E, rfl⟩
  | .join .most ts, x, w => by
    obtain ⟨nr, E, ea⟩ := walk_s ts x w
    have e : ans (askO nums recs B name) (askN nums recs B name) (.join .most ts) x = (maxL (anss (askO nums recs B name) (askN nums recs B name) ts x).1, (anss (askO nums recs B name) (askN nums recs B name) ts x).2) := by
      conv => lhs; unfold ans
    rw [e, rdn_most, ev_most, ← ea]
    exact ⟨nr, E, rfl⟩
  | .join .least ts, x, w => by
    obtain ⟨nr, E, ea⟩ := walk_l ts 30 x w
    have e : ans (askO nums recs B name) (askN nums recs B name) (.join .least ts) x = ansl (askO nums recs B name) (askN nums recs B name) ts 30 x := by
      conv => lhs; unfold ans
    rw [e, rdn_least, ev_least]
    exact ⟨nr, E, ea⟩
theorem walk_s : ∀ (ts : List T) (x : AS), Wk nums recs d name x → ∃ nr, Did nums recs d name x (anss (askO nums recs B name) (askN nums recs B name) ts x).2 (rdns (stM nums recs (anss (askO nums recs B name) (askN nums recs B name) ts x).2.1) ts) nr ∧
    (anss (askO nums recs B name) (askN nums recs B name) ts x).1 = ts.map (ev (stM nums recs (anss (askO nums recs B name) (askN nums recs B name) ts x).2.1))
  | [], x, w => by
    have e : anss (askO nums recs B name) (askN nums recs B name) [] x = ([], x) := by unfold anss; rfl
    rw [e, rdns_nil]
    exact ⟨[], .refl w, rfl⟩
  | t :: r, x, w => by
    obtain ⟨n1, D, ea⟩ := walk_t t x w
    obtain ⟨n2, E, eb⟩ := walk_s r _ D.w
    have e : anss (askO nums recs B name) (askN nums recs B name) (t :: r) x = ((ans (askO nums recs B name) (askN nums recs B name) t x).1 :: (anss (askO nums recs B name) (askN nums recs B name) r (ans (askO nums recs B name) (askN nums recs B name) t x).2).1, (anss (askO nums recs B name) (askN nums recs B name) r (ans (askO nums recs B name) (askN nums recs B name) t x).2).2) := by
      conv => lhs; unfold anss
    obtain ⟨s1, s2⟩ := stay_ev hn b name D E
    rw [e, rdns_cons, List.map_cons]
    dsimp only
    rw [s1, s2]
    exact ⟨n1 ++ n2, D.trans E, by rw [ea, eb]⟩
theorem walk_l : ∀ (ts : List T) (c : Int) (x : AS), Wk nums recs d name x → ∃ nr, Did nums recs d name x (ansl (askO nums recs B name) (askN nums recs B name) ts c x).2 (rdnl (stM nums recs (ansl (askO nums recs B name) (askN nums recs B name) ts c x).2.1) ts c) nr ∧
    (ansl (askO nums recs B name) (askN nums recs B name) ts c x).1 = evl (stM nums recs (ansl (askO nums recs B name) (askN nums recs B name) ts c x).2.1) ts c
  | [], c, x, w => by
    have e : ansl (askO nums recs B name) (askN nums recs B name) [] c x = (c, x) := by unfold ansl; rfl
    rw [e, rdnl_nil, evl_nil]
    exact ⟨[], .refl w, rfl⟩
  | t :: r, c, x, w => by
    have e : ansl (askO nums recs B name) (askN nums recs B name) (t :: r) c x = if 0 < c then ansl (askO nums recs B name) (askN nums recs B name) r (min c (ans (askO nums recs B name) (askN nums recs B name) t x).1) (ans (askO nums recs B name) (askN nums recs B name) t x).2 else (c, x) := by
      conv => lhs; unfold ansl
    rw [e]
    by_cases k : 0 < c
    · rw [if_pos k]
      obtain ⟨n1, D, ea⟩ := walk_t t x w
      obtain ⟨n2, E, eb⟩ := walk_l r (min c (ans (askO nums recs B name) (askN nums recs B name) t x).1) _ D.w
      obtain ⟨s1, s2⟩ := stay_ev hn b name D E
      rw [rdnl_cons, evl_cons, if_pos k, if_pos k, s1, s2, ← ea]
      exact ⟨n1 ++ n2, D.trans E, eb⟩
    · rw [if_neg k, rdnl_cons, evl_cons, if_neg k, if_neg k]
      exact ⟨[], .refl w, rfl⟩
end
end
end Aw

namespace Aw
open PySem L2
mutual
theorem rdn_len {f : Str → Int} : ∀ t : T, (rdn f t).length ≤ (named t).length
  | .num k => by rw [rdn_num]; exact Nat.zero_le _
  | .name s => by rw [rdn_name]; exact Nat.le_refl _
  | .gate s b t => by
    rw [rdn_gate]
    show _ ≤ (s :: named t).length
    rw [List.length_cons, List.length_cons]
    split
    · exact Nat.succ_le_succ (Nat.zero_le _)
    · exact Nat.succ_le_succ (rdn_len t)
  | .join .sum ts => by rw [rdn_sum]; exact rdns_len ts
  | .join .most ts => by rw [rdn_most]; exact rdns_len ts
  | .join .least ts => by rw [rdn_least]; exact rdnl_len ts 30
theorem rdns_len {f : Str → Int} : ∀ ts : List T, (rdns f ts).length ≤ (nameds ts).length
  | [] => by rw [rdns_nil]; exact Nat.zero_le _
  | t :: r => by
    have h1 := rdn_len (f := f) t
    have h2 := rdns_len (f := f) r
    rw [rdns_cons]
    show _ ≤ (named t ++ nameds r).length
    rw [List.length_append, List.length_append]
    omega
theorem rdnl_len {f : Str → Int} : ∀ (ts : List T) (c : Int), (rdnl f ts c).length ≤ (nameds ts).length
  | [], c => by rw [rdnl_nil]; exact Nat.zero_le _
  | t :: r, c => by
    have h1 := rdn_len (f := f) t
    rw [rdnl_cons]
    show _ ≤ (named t ++ nameds r).length
    rw [List.length_append]
    split
    · have h2 := rdnl_len (f := f) r (min c (ev f t))
      rw [List.length_append]
      omega
    · exact Nat.zero_le _
end
theorem lastA_snoc (rs : List Rn) (r : Rn) : lastA (rs ++ [r]) = r.an := by unfold lastA; rw [List.getLast?_append]; rfl
theorem lastRd_snoc (rs : List Rn) (r : Rn) : lastRd (rs ++ [r]) = r.rd := by unfold lastRd; rw [List.getLast?_append]; rfl
theorem sum_le' {α : Type} {f g : α → Nat} : ∀ {l : List α}, (∀ x ∈ l, f x ≤ g x) → (l.map f).sum ≤ (l.map g).sum
  | [], _ => Nat.le_refl _
  | a :: r, h => by
    have h1 := h a List.mem_cons_self
    have h2 := sum_le' (l := r) fun x hx => h x (List.mem_cons_of_mem _ hx)
    rw [List.map_cons, List.map_cons, List.sum_cons, List.sum_cons]
    omega
theorem sum_lt' {α : Type} {f g : α → Nat} : ∀ {l : List α}, (∀ x ∈ l, f x ≤ g x) → ∀ {a : α}, a ∈ l → f a < g a → (l.map f).sum < (l.map g).sum
  | b :: r, h, a, ha, lt => by
    have h1 := h b List.mem_cons_self
    have h2 := sum_le' (l := r) fun x hx => h x (List.mem_cons_of_mem _ hx)
    rw [List.map_cons, List.map_cons, List.sum_cons, List.sum_cons]
    rcases List.mem_cons.mp ha with e | e
    · subst e; omega
    · have h3 := sum_lt' (l := r) (fun x hx => h x (List.mem_cons_of_mem _ hx)) e lt
      omega
section
variable {nums : AL Int} {recs : AL T}
theorem recOf_mem {s : Str} (h : s ∈ akeys recs) : (s, recOf recs s) ∈ recs := by
  obtain ⟨t, e⟩ := alk_in h
  unfold recOf
  rw [e]
  exact alk_mem e
theorem fnR_of {rd : List (Str × Int)} {g : Str → Int} (h : ∀ q ∈ rd, q.2 = g q.1) {s : Str} (hs : s ∈ rd.map (·.1)) : fnR rd s = g s := by
  unfold fnR
  obtain ⟨x, e⟩ := alk_in (m := rd) hs
  rw [e]
  exact h _ (alk_mem e)
theorem fnR_no {rd : List (Str × Int)} {s : Str} (hs : s ∉ rd.map (·.1)) : fnR rd s = 0 := by
  unfold fnR
  rw [alk_none.mpr hs]
  rfl
variable (nums recs) in
/-- what is left to be run -/
def phi (st : Ak) : Nat := ((akeys recs).map (phi1 recs st)).sum
theorem phi1_le (st : Ak) (s : Str) : s ∈ akeys st.ran → phi1 recs st s ≤ 31 * (unames recs).length := by
  intro h
  unfold phi1
  rw [if_pos h]
  have : ∀ l : List Str, (l.map fun y => 31 - known st s y).sum ≤ 31 * l.length := by
    intro l
    induction l with
    | nil => exact Nat.zero_le _
    | cons a r ih => rw [List.map_cons, List.sum_cons, List.length_cons]; omega
  exact this _
variable (hn : NumOk nums) (hr : RecOk recs) {d : Nat} {B : Ak → Str → Ak} (b : BOk nums recs d B)
include hn hr b
/-- a work is run -/
theorem run_ok {st : Ak} (i : AkInv nums recs st) (hu : unpl recs st ≤ d) {n : Str} (np : n ∈ akeys st.place) (nk : n ∉ akeys st.kept) :
    ∃ rd a, runM nums recs B st n = ranAdd (runOf nums recs B st n).2.1 ⟨n, rd, a⟩ ∧ a = (runOf nums recs B st n).1 ∧ rd = (runOf nums recs B st n).2.2 ∧
      Did nums recs d n (st, []) (runOf nums recs B st n).2 (rdn (stM nums recs (runOf nums recs B st n).2.1) (recOf recs n)) rd ∧ a = ev (stM nums recs (runOf nums recs B st n).2.1) (recOf recs n) ∧
      AkInv nums recs (runM nums recs B st n) ∧ EffX nums recs (fun y => y = n) st (runM nums recs B st n) ∧ NW st (runM nums recs B st n) ∧
      alk (runM nums recs B st n).ran n = some ((alk st.ran n).getD [] ++ [⟨n, rd, a⟩]) ∧ stM nums recs (runOf nums recs B st n).2.1 n ≤ a ∧
      (∀ s, s ≠ n → stM nums recs (runM nums recs B st n) s = stM nums recs (runOf nums recs B st n).2.1 s) ∧ stM nums recs (runM nums recs B st n) n = a := by
  have nr : n ∈ akeys recs := i.pr n np
  obtain ⟨nrd, D, ea⟩ := walk_t hn b n (recOf recs n) (st, []) ⟨i, hu, np⟩
  have wf := hr.wf _ (recOf_mem nr)
  have eo : runOf nums recs B st n = ans (askO nums recs B n) (askN nums recs B n) (recOf recs n) (st, []) := rfl
  rw [← eo] at D ea
  obtain ⟨st1, hst1⟩ : ∃ st1, st1 = (runOf nums recs B st n).2.1 := ⟨_, rfl⟩
  obtain ⟨a, ha⟩ : ∃ a, a = (runOf nums recs B st n).1 := ⟨_, rfl⟩
  have erd : (runOf nums recs B st n).2.2 = nrd := by have := D.rd; simpa using this
  have em : runM nums recs B st n = ranAdd st1 ⟨n, nrd, a⟩ := by unfold runM; rw [erd, ← ha, ← hst1]
  rw [← ha, ← hst1] at ea
  have Dw := D.w.i
  have De := D.e
  have Dok := D.ok
  have Dnm := D.nm
  have Dnw := D.nw
  have Dp := D.w.p
  rw [← hst1] at Dw De Dok Dnm Dnw Dp
  have er : alk st1.ran n = alk st.ran n := De.rn n np (fun z => z)
  have k1 : n ∉ akeys st1.kept := De.kn nk
  have rng := fun s => stM_rng hn Dw s
  have a01 := ev_rng rng wf.1
  rw [← ea] at a01
  have fo : ∀ s ∈ nrd.map (·.1), fnR nrd s = stM nums recs st1 s := fun s hs => fnR_of (fun q hq => (Dok q hq).2.1) hs
  have cg := ev_congr (f := stM nums recs st1) (g := fnR nrd) (recOf recs n) fun s hs => by rw [← Dnm] at hs; exact (fo s hs).symm
  obtain ⟨rs0, hrs0⟩ : ∃ rs0, rs0 = (alk st.ran n).getD [] := ⟨_, rfl⟩
  have e2 : (ranAdd st1 ⟨n, nrd, a⟩).ran = aput st1.ran n (rs0 ++ [⟨n, nrd, a⟩]) := by
    show aput st1.ran n ((alk st1.ran n).getD [] ++ [⟨n, nrd, a⟩]) = _
    rw [er, hrs0]
  have alk2 : ∀ s, alk (ranAdd st1 ⟨n, nrd, a⟩).ran s = if s = n then some (rs0 ++ [⟨n, nrd, a⟩]) else alk st1.ran s := fun s => by rw [e2, alk_put]
  have st2o : ∀ s, s ≠ n → stM nums recs (ranAdd st1 ⟨n, nrd, a⟩) s = stM nums recs st1 s := fun s hs => stM_congr (by rw [alk2, if_neg hs]) Iff.rfl rfl
  have st2n : stM nums recs (ranAdd st1 ⟨n, nrd, a⟩) n = a := by
    unfold stM
    rw [alk2, if_pos rfl]
    exact lastA_snoc _ _
  -- the answer doesn't fall
  have up : stM nums recs st1 n ≤ a := by
    cases e : alk st1.ran n with
    | none =>
      have : stM nums recs st1 n = 0 := by
        unfold stM
        rw [e]
        dsimp only
        rw [if_neg (fun z => z nr)]
        split
        · rw [alk_none.mpr k1]
        · rfl
      rw [this]; exact a01.1
    | some rs =>
      have hm := alk_mem e
      obtain ⟨c1, c2, c3⟩ := Dw.cs _ hm
      have e3 : stM nums recs st1 n = lastA rs := by unfold stM; rw [e]
      rw [e3, c2, ea]
      have rv : ∀ q ∈ lastRd rs, 0 ≤ q.2 := fun q hq => by
        unfold lastRd at hq
        cases e4 : rs.getLast? with
        | none => rw [e4] at hq; cases hq
        | some r0 =>
          rw [e4] at hq
          exact (((Dw.rn _ hm).2 r0 (List.mem_of_getLast? e4)).rv q hq).1
      have f0 : ∀ s, 0 ≤ fnR (lastRd rs) s := fun s => by
        by_cases c : s ∈ (lastRd rs).map (·.1)
        · obtain ⟨q, hq, eq⟩ := List.mem_map.mp c
          rw [← eq, c1 q hq]; exact rv q hq
        · rw [fnR_no c]; exact Int.le_refl _
      refine ev_mono f0 (fun s => ?_) _ wf.1
      by_cases c : s ∈ (lastRd rs).map (·.1)
      · obtain ⟨q, hq, eq⟩ := List.mem_map.mp c
        rw [← eq, c1 q hq]; exact Dw.s1 _ hm q hq
      · rw [fnR_no c]; exact (rng s).1
  have mono2 : ∀ s, stM nums recs st1 s ≤ stM nums recs (ranAdd st1 ⟨n, nrd, a⟩) s := fun s => by
    by_cases c : s = n
    · rw [c, st2n]; exact up
    · rw [st2o s c]; exact Int.le_refl _
  have mem2 : ∀ p ∈ (ranAdd st1 ⟨n, nrd, a⟩).ran, p ∈ st1.ran ∧ p.1 ≠ n ∨ p = (n, rs0 ++ [⟨n, nrd, a⟩]) := fun p hp => by
    have nd2 : (akeys (ranAdd st1 ⟨n, nrd, a⟩).ran).Nodup := by rw [e2]; exact anodup_put Dw.rd _ _
    have e4 := mem_alk nd2 hp
    rw [alk2] at e4
    by_cases c : p.1 = n
    · rw [if_pos c] at e4
      right
      have := Option.some.inj e4
      rw [this, ← c]
    · rw [if_neg c] at e4
      exact .inl ⟨alk_mem e4, c⟩
  have rl : nrd.length ≤ 1000 := by
    have h1 := rdn_len (f := stM nums recs st1) (recOf recs n)
    rw [← Dnm, List.length_map] at h1
    exact Nat.le_trans h1 wf.2
  have ok0 : ∀ r ∈ rs0, RnOk n r := fun r hr' => by
    rw [hrs0] at hr'
    cases e : alk st.ran n with
    | none => rw [e] at hr'; cases hr'
    | some rs =>
      rw [e] at hr'
      exact (i.rn _ (alk_mem e)).2 r hr'
  have keys2 : ∀ s, s ∈ akeys (ranAdd st1 ⟨n, nrd, a⟩).ran ↔ s ∈ akeys st1.ran ∨ s = n := fun s => by rw [e2]; exact mem_akeys_put
  have ka : ∀ s y, s ≠ n → known (ranAdd st1 ⟨n, nrd, a⟩) s y = known st1 s y := fun s y hs => by unfold known; rw [alk2, if_neg hs]
  have ph2 : ∀ s, phi1 recs (ranAdd st1 ⟨n, nrd, a⟩) s ≤ phi1 recs st1 s := fun s => by
    by_cases c : s = n
    · subst c
      by_cases c2 : s ∈ akeys st1.ran
      · unfold phi1
        rw [if_pos c2, if_pos ((keys2 s).mpr (.inr rfl))]
        refine sum_le' fun y _ => ?_
        have : known st1 s y ≤ known (ranAdd st1 ⟨s, nrd, a⟩) s y := by
          unfold known
          rw [alk2, if_pos rfl]
          dsimp only
          rw [lastRd_snoc]
          obtain ⟨rs, e⟩ := alk_in c2
          rw [e]
          dsimp only
          have hm := alk_mem e
          obtain ⟨c3, c4, c5⟩ := Dw.cs _ hm
          cases e5 : alk (lastRd rs) y with
          | none => exact Nat.zero_le _
          | some v =>
            have hv := alk_mem e5
            have v1 := Dw.s1 _ hm _ hv
            dsimp only at v1
            -- y is read again
            have rv : ∀ q ∈ lastRd rs, 0 ≤ q.2 := fun q hq => by
              unfold lastRd at hq
              cases e4 : rs.getLast? with
              | none => rw [e4] at hq; cases hq
              | some r0 =>
                rw [e4] at hq
                exact (((Dw.rn _ hm).2 r0 (List.mem_of_getLast? e4)).rv q hq).1
            have f0 : ∀ s, 0 ≤ fnR (lastRd rs) s := fun s => by
              by_cases c : s ∈ (lastRd rs).map (·.1)
              · obtain ⟨q, hq, eq⟩ := List.mem_map.mp c
                rw [← eq, c3 q hq]; exact rv q hq
              · rw [fnR_no c]; exact Int.le_refl _
            have fl : ∀ s, fnR (lastRd rs) s ≤ stM nums recs st1 s := fun s => by
              by_cases c : s ∈ (lastRd rs).map (·.1)
              · obtain ⟨q, hq, eq⟩ := List.mem_map.mp c
                rw [← eq, c3 q hq]; exact Dw.s1 _ hm q hq
              · rw [fnR_no c]; exact (rng s).1
            have y1 : y ∈ rdn (fnR (lastRd rs)) (recOf recs s) := by rw [← c5]; exact List.mem_map_of_mem hv
            have y2 := rdn_mono f0 fl (recOf recs s) wf.1 y y1
            rw [← Dnm] at y2
            obtain ⟨v', e6⟩ := alk_in (m := nrd) y2
            have v2 := (Dok _ (alk_mem e6)).2.1
            dsimp only at v2
            rw [e6]
            dsimp only
            omega
        omega
      · have h1 := phi1_le (recs := recs) (ranAdd st1 ⟨s, nrd, a⟩) s ((keys2 s).mpr (.inr rfl))
        unfold phi1 at h1 ⊢
        rw [if_neg c2]
        omega
    · unfold phi1
      by_cases c2 : s ∈ akeys st1.ran
      · rw [if_pos c2, if_pos ((keys2 s).mpr (.inl c2))]
        exact sum_le' fun y _ => by rw [ka s y c]; exact Nat.le_refl _
      · rw [if_neg c2, if_neg (fun z => ((keys2 s).mp z).elim c2 c)]
        exact Nat.le_refl _
  have inv : AkInv nums recs (ranAdd st1 ⟨n, nrd, a⟩) := by
    refine ⟨Dw.kp, by rw [e2]; exact anodup_put Dw.rd _ _, Dw.pd, Dw.pr, Dw.pv, Dw.lk, Dw.l0, fun s hs => ?_, fun p hp => ?_, Dw.sd, fun s hs => ⟨(Dw.sk s hs).1, (Dw.sk s hs).2.imp (fun q => (keys2 s).mpr (.inl q)) id⟩, Dw.sg, fun p hp q hq => ?_, fun p hp => ?_, Dw.lp, fun p hp r hr' q hq => ?_, fun p hp => ?_⟩
    · rcases (keys2 s).mp hs with q | q
      · exact Dw.rp s q
      · rw [q]; exact ⟨Dp, k1⟩
    · rcases mem2 p hp with ⟨q, _⟩ | q
      · exact Dw.rn p q
      · rw [q]
        refine ⟨by simp, fun r hr' => ?_⟩
        rcases List.mem_append.mp hr' with c | c
        · exact ok0 r c
        · rw [List.mem_singleton.mp c]
          exact ⟨rfl, a01.1, a01.2, rl, fun q hq => (Dok q hq).2.2⟩
    · refine Int.le_trans ?_ (mono2 q.1)
      rcases mem2 p hp with ⟨c, _⟩ | c
      · exact Dw.s1 p c q hq
      · rw [c, lastRd_snoc] at hq
        exact Int.le_of_eq (Dok q hq).2.1
    · rcases mem2 p hp with ⟨c, _⟩ | c
      · exact Dw.cs p c
      · rw [c]
        dsimp only
        rw [lastRd_snoc, lastA_snoc]
        refine ⟨fun q hq => by rw [fo _ (List.mem_map_of_mem hq)]; exact (Dok q hq).2.1.symm, by rw [cg.1]; exact ea, by rw [cg.2]; exact Dnm⟩
    · rcases mem2 p hp with ⟨c, _⟩ | c
      · exact ⟨(Dw.rb p c r hr' q hq).1, Int.le_trans (Dw.rb p c r hr' q hq).2 (mono2 _)⟩
      · rw [c] at hr'
        rw [c]
        dsimp only
        rw [lastRd_snoc]
        rcases List.mem_append.mp hr' with c2 | c2
        · cases e6 : alk st.ran n with
          | none => rw [hrs0, e6] at c2; cases c2
          | some rs =>
            rw [hrs0, e6] at c2
            have hm := alk_mem (er.trans e6)
            obtain ⟨z1, z2⟩ := Dw.rb _ hm r c2 q hq
            obtain ⟨c3, c4, c5⟩ := Dw.cs _ hm
            refine ⟨?_, Int.le_trans z2 (mono2 _)⟩
            have rv : ∀ q ∈ lastRd rs, 0 ≤ q.2 := fun q hq => by
              unfold lastRd at hq
              cases e4 : rs.getLast? with
              | none => rw [e4] at hq; cases hq
              | some r0 =>
                rw [e4] at hq
                exact (((Dw.rn _ hm).2 r0 (List.mem_of_getLast? e4)).rv q hq).1
            have f0 : ∀ s, 0 ≤ fnR (lastRd rs) s := fun s => by
              by_cases c : s ∈ (lastRd rs).map (·.1)
              · obtain ⟨q, hq, eq⟩ := List.mem_map.mp c
                rw [← eq, c3 q hq]; exact rv q hq
              · rw [fnR_no c]; exact Int.le_refl _
            have fl : ∀ s, fnR (lastRd rs) s ≤ stM nums recs st1 s := fun s => by
              by_cases c : s ∈ (lastRd rs).map (·.1)
              · obtain ⟨q, hq, eq⟩ := List.mem_map.mp c
                rw [← eq, c3 q hq]; exact Dw.s1 _ hm q hq
              · rw [fnR_no c]; exact (rng s).1
            rw [Dnm]
            exact rdn_mono f0 fl (recOf recs n) wf.1 q.1 (by rw [← c5]; exact z1)
        · rw [List.mem_singleton.mp c2] at hq
          have hq : q ∈ nrd := hq
          exact ⟨List.mem_map_of_mem hq, by rw [(Dok q hq).2.1]; exact mono2 _⟩
    · show p.2.length ≤ (st1.ended ++ [_]).length
      rw [List.length_append, List.length_singleton]
      rcases mem2 p hp with ⟨q, _⟩ | q
      · have := Dw.rl p q; omega
      · rw [q]
        show (rs0 ++ [_]).length ≤ _
        rw [List.length_append, List.length_singleton, hrs0]
        cases e6 : alk st.ran n with
        | none => show 0 + 1 ≤ _; omega
        | some rs =>
          have := Dw.rl _ (alk_mem (er.trans e6))
          show rs.length + 1 ≤ _
          have z : rs.length ≤ st1.ended.length := this
          omega
  have e12 : EffX nums recs (fun y => y = n) st1 (ranAdd st1 ⟨n, nrd, a⟩) := by
    refine ⟨fun y _ hy => st2o y hy, mono2, fun y f => f, ⟨[], (List.append_nil _).symm⟩, fun _ h => h, fun _ _ h => h, fun y _ hy => by rw [alk2, if_neg hy], fun y hy => (keys2 y).mpr (.inl hy), ph2, fun _ _ h => h⟩
  rw [← hst1, ← ha, erd]
  refine ⟨nrd, a, em, rfl, rfl, by rw [← hst1] at D; exact D, ea, by rw [em]; exact inv, by rw [em]; exact (De.wide fun _ z => z.elim).trans e12, ?_, by rw [em, alk2, if_pos rfl, hrs0], up, fun s hs => by rw [em]; exact st2o s hs, by rw [em]; exact st2n⟩
  rw [em]
  exact Dnw.trans (.same rfl) e12
end
end Aw

namespace Aw
open PySem L2
section
variable {nums : AL Int} {recs : AL T}
theorem phi_le {ex : Str → Prop} {st st' : Ak} (e : EffX nums recs ex st st') : phi recs st' ≤ phi recs st := sum_le' fun s _ => e.ph s
theorem rd_nn {st : Ak} (i : AkInv nums recs st) {n : Str} {rs : List Rn} (hm : (n, rs) ∈ st.ran) : ∀ q ∈ lastRd rs, 0 ≤ q.2 ∧ q.2 ≤ 30 := fun q hq => by
  unfold lastRd at hq
  cases e4 : rs.getLast? with
  | none => rw [e4] at hq; cases hq
  | some r0 =>
    rw [e4] at hq
    exact ((i.rn _ hm).2 r0 (List.mem_of_getLast? e4)).rv q hq
variable (hn : NumOk nums) (hr : RecOk recs) {d : Nat} {B : Ak → Str → Ak} (b : BOk nums recs d B)
include hn hr b
theorem run_phi1 {st : Ak} (i : AkInv nums recs st) (hu : unpl recs st ≤ d) {n : Str} (np : n ∈ akeys st.place) (nk : n ∉ akeys st.kept) (h : n ∉ akeys st.ran ∨ hasRisen nums recs st n = true) : phi1 recs (runM nums recs B st n) n < phi1 recs st n := by
  obtain ⟨rd, a, em, ea, erd, D, eev, inv, eff, nw, alk2, up, oth, own⟩ := run_ok hn hr b i hu np nk
  have nr := i.pr n np
  have in2 : n ∈ akeys (runM nums recs B st n).ran := in_alk alk2
  rcases h with h | h
  · have h1 := phi1_le (recs := recs) (runM nums recs B st n) n in2
    have : phi1 recs st n = 31 * (unames recs).length + 1 := by unfold phi1; rw [if_neg h]
    omega
  · unfold hasRisen at h
    obtain ⟨q, hq, lt⟩ := List.any_eq_true.mp h
    have lt := of_decide_eq_true lt
    by_cases c : n ∈ akeys st.ran
    · obtain ⟨rs, e⟩ := alk_in c
      rw [e] at hq
      have hq : q ∈ lastRd rs := hq
      have hm := alk_mem e
      obtain ⟨c1, c2, c3⟩ := i.cs _ hm
      have wf := hr.wf _ (recOf_mem nr)
      have De := D.e
      have Dw := D.w.i
      have De1 : EffX nums recs (fun _ => False) st (runOf nums recs B st n).2.1 := De
      have f0 : ∀ s, 0 ≤ fnR (lastRd rs) s := fun s => by
        by_cases c : s ∈ (lastRd rs).map (·.1)
        · obtain ⟨q, hq, eq⟩ := List.mem_map.mp c
          rw [← eq, c1 q hq]; exact (rd_nn i hm q hq).1
        · rw [fnR_no c]; exact Int.le_refl _
      have fl : ∀ s, fnR (lastRd rs) s ≤ stM nums recs (runOf nums recs B st n).2.1 s := fun s => by
        by_cases c : s ∈ (lastRd rs).map (·.1)
        · obtain ⟨q, hq, eq⟩ := List.mem_map.mp c
          rw [← eq, c1 q hq]; exact Int.le_trans (i.s1 _ hm q hq) (De1.mono _)
        · rw [fnR_no c]; exact (stM_rng hn Dw s).1
      have kold : ∀ y, known st n y = match alk (lastRd rs) y with | none => 0 | some v => (v + 1).toNat := fun y => by unfold known; rw [e] <;> rfl
      have knew : ∀ y, known (runM nums recs B st n) n y = match alk rd y with | none => 0 | some v => (v + 1).toNat := fun y => by
        unfold known
        rw [alk2]
        dsimp only
        rw [lastRd_snoc] <;> rfl
      have again : ∀ y v, alk (lastRd rs) y = some v → ∃ v', alk rd y = some v' ∧ v' = stM nums recs (runOf nums recs B st n).2.1 y ∧ v ≤ v' := fun y v e5 => by
        have hv := alk_mem e5
        have y1 : y ∈ rdn (fnR (lastRd rs)) (recOf recs n) := by rw [← c3]; exact List.mem_map_of_mem hv
        have y2 := rdn_mono f0 fl (recOf recs n) wf.1 y y1
        rw [← D.nm] at y2
        obtain ⟨v', e6⟩ := alk_in (m := rd) y2
        have v2 := (D.ok _ (alk_mem e6)).2.1
        dsimp only at v2
        refine ⟨v', e6, v2, ?_⟩
        rw [v2]
        exact Int.le_trans (i.s1 _ hm _ hv) (De1.mono _)
      have kle : ∀ y, known st n y ≤ known (runM nums recs B st n) n y := fun y => by
        rw [kold, knew]
        cases e5 : alk (lastRd rs) y with
        | none => exact Nat.zero_le _
        | some v =>
          obtain ⟨v', e6, _, le⟩ := again y v e5
          rw [e6]
          exact Int.toNat_le_toNat (Int.add_le_add_right le 1)
      unfold phi1
      rw [if_pos c, if_pos in2]
      obtain ⟨v0, e0⟩ : ∃ v0, alk (lastRd rs) q.1 = some v0 := alk_in (List.mem_map_of_mem hq)
      have ev0 : v0 = q.2 := by
        have := c1 q hq
        unfold fnR at this
        rw [e0] at this
        exact this
      have qu : q.1 ∈ unames recs := by
        have y1 : q.1 ∈ rdn (fnR (lastRd rs)) (recOf recs n) := by rw [← c3]; exact List.mem_map_of_mem hq
        exact List.mem_flatten.mpr ⟨_, List.mem_map.mpr ⟨_, recOf_mem nr, rfl⟩, rdn_named _ _ y1⟩
      refine sum_lt' (fun y _ => by have := kle y; omega) qu ?_
      obtain ⟨v', e6, ev', le⟩ := again q.1 v0 e0
      rw [kold, knew, e0, e6]
      show 31 - (v' + 1).toNat < 31 - (v0 + 1).toNat
      have m1 := De1.mono q.1
      have r1 := (rd_nn i hm q hq)
      have r2 := (stM_rng hn i q.1).2
      omega
    · rw [alk_none.mpr c] at hq
      cases hq
theorem run_phi {st : Ak} (i : AkInv nums recs st) (hu : unpl recs st ≤ d) {n : Str} (np : n ∈ akeys st.place) (nk : n ∉ akeys st.kept) (h : n ∉ akeys st.ran ∨ hasRisen nums recs st n = true) : phi recs (runM nums recs B st n) < phi recs st := by
  obtain ⟨rd, a, em, ea, erd, D, eev, inv, eff, nw, alk2, up, oth, own⟩ := run_ok hn hr b i hu np nk
  exact sum_lt' (fun s _ => eff.ph s) (i.pr n np) (run_phi1 hn hr b i hu np nk h)
/-- .. and of where the run's walk ended -/
theorem run_phi2 {st : Ak} (i : AkInv nums recs st) (hu : unpl recs st ≤ d) {n : Str} (np : n ∈ akeys st.place) (nk : n ∉ akeys st.kept) (h : n ∉ akeys st.ran ∨ hasRisen nums recs st n = true) : phi recs (runM nums recs B st n) < phi recs (runOf nums recs B st n).2.1 := by
  obtain ⟨rd, a, em, ea, erd, D, eev, inv, eff, nw, alk2, up, oth, own⟩ := run_ok hn hr b i hu np nk
  have er : alk (runOf nums recs B st n).2.1.ran n = alk st.ran n := D.e.rn n np (fun z => z)
  have en : phi1 recs (runOf nums recs B st n).2.1 n = phi1 recs st n := by
    have k1 : n ∈ akeys (runOf nums recs B st n).2.1.ran ↔ n ∈ akeys st.ran := by
      have z : ∀ m : AL (List Rn), n ∈ akeys m ↔ alk m n ≠ none := fun m => by rw [ne_eq, alk_none]; simp
      rw [z, z, er]
    have k2 : ∀ y, known (runOf nums recs B st n).2.1 n y = known st n y := fun y => by unfold known; rw [er]
    unfold phi1
    by_cases c : n ∈ akeys st.ran
    · rw [if_pos c, if_pos (k1.mpr c)]
      congr 2
      funext y
      rw [k2]
    · rw [if_neg c, if_neg (fun w => c (k1.mp w))]
  have lt := run_phi1 hn hr b i hu np nk h
  rw [← en] at lt
  refine sum_lt' (fun s _ => ?_) (i.pr n np) lt
  by_cases c : s = n
  · rw [c]; exact Nat.le_of_lt lt
  · have es : alk (runM nums recs B st n).ran s = alk (runOf nums recs B st n).2.1.ran s := by
      rw [em]
      show alk (aput (runOf nums recs B st n).2.1.ran n ((alk (runOf nums recs B st n).2.1.ran n).getD [] ++ [⟨n, rd, a⟩])) s = _
      rw [alk_put, if_neg c]
    have k1 : s ∈ akeys (runM nums recs B st n).ran ↔ s ∈ akeys (runOf nums recs B st n).2.1.ran := by
      have z : ∀ m : AL (List Rn), s ∈ akeys m ↔ alk m s ≠ none := fun m => by rw [ne_eq, alk_none]; simp
      rw [z, z, es]
    have k2 : ∀ y, known (runM nums recs B st n) s y = known (runOf nums recs B st n).2.1 s y := fun y => by unfold known; rw [es]
    unfold phi1
    by_cases c2 : s ∈ akeys (runOf nums recs B st n).2.1.ran
    · rw [if_pos c2, if_pos (k1.mpr c2)]
      refine Nat.le_of_eq ?_
      congr 2
      funext y
      rw [k2]
    · rw [if_neg c2, if_neg (fun w => c2 (k1.mp w))]
      exact Nat.le_refl _
/-! ### whether a kept knot is good -/
theorem goodL_ok {name : Str} : ∀ (l : List (Str × Int)) {st : Ak}, AkInv nums recs st → unpl recs st ≤ d → name ∈ akeys st.place →
    AkInv nums recs (goodL nums recs B name l st).2 ∧ EffX nums recs (fun _ => False) st (goodL nums recs B name l st).2 ∧ NW st (goodL nums recs B name l st).2 ∧ ((goodL nums recs B name l st).1 = true → name ∈ akeys st.kept → name ∈ akeys (goodL nums recs B name l st).2.kept)
  | [], st, i, _, _ => by
    show AkInv nums recs st ∧ EffX nums recs _ st st ∧ NW st st ∧ _
    exact ⟨i, .refl _ _, .same rfl, fun _ h => h⟩
  | q :: r, st, i, hu, hp => by
    obtain ⟨h1, h2, _, _, h5⟩ := come_ok b i hu (s := q.1) hp
    unfold goodL
    dsimp only
    split
    · exact ⟨h1, h2, h5, fun z => by cases z⟩
    · next c =>
      have ck : name ∈ akeys (comeM recs B st q.1 name).kept := Decidable.by_contra fun z => c (.inl z)
      obtain ⟨g1, g2, g3, g4⟩ := goodL_ok r h1 (Nat.le_trans (unpl_le fun y hy => h2.plm hy) hu) (h2.plm hp)
      exact ⟨g1, h2.trans g2, h5.trans g3 g2, fun z _ => g4 z ck⟩
theorem goodM_ok {st : Ak} {name : Str} (i : AkInv nums recs st) (hu : unpl recs st ≤ d) (hp : name ∈ akeys st.place) :
    AkInv nums recs (goodM nums recs B st name).2 ∧ EffX nums recs (fun _ => False) st (goodM nums recs B st name).2 ∧ NW st (goodM nums recs B st name).2 ∧
      ((goodM nums recs B st name).1 = true → ∃ k, alk (goodM nums recs B st name).2.kept name = some k ∧ ¬ oddK recs k) := by
  unfold goodM
  cases e : alk st.kept name with
  | none => exact ⟨i, .refl _ _, .same rfl, fun z => by cases z⟩
  | some k =>
    dsimp only
    split
    · exact ⟨i, .refl _ _, .same rfl, fun z => by cases z⟩
    · next c =>
      obtain ⟨g1, g2, g3, g4⟩ := goodL_ok hn hr b (name := name) (outM k name) i hu hp
      refine ⟨g1, g2, g3, fun z => ?_⟩
      obtain ⟨k', e'⟩ := alk_in (g4 z (in_alk e))
      have e2 := g2.kp _ _ e'
      rw [e] at e2
      cases e2
      exact ⟨k, e', c⟩
/-! ### settled, again and again run -/
variable (recs) in
/-- what may be run while a work and those behind it are settled -/
def exS (st0 : Ak) (first y : Str) : Prop := y ∈ akeys recs ∧ ¬ (y ∈ akeys st0.place ∧ plc st0 y < plc st0 first) ∧ ¬ (y ∉ akeys st0.place ∧ y ∈ akeys st0.set)
omit hn hr b in
theorem mem_since {st : Ak} (pd : (akeys st.place).Nodup) {first y : Str} : y ∈ since st first ↔ y ∈ akeys st.place ∧ plc st first ≤ plc st y := by
  unfold since
  rw [List.mem_map]
  constructor
  · rintro ⟨p, hp, rfl⟩
    obtain ⟨h1, h2⟩ := List.mem_filter.mp hp
    have e : plc st p.1 = p.2 := by show (alk st.place p.1).getD 0 = p.2; rw [mem_alk pd h1]; rfl
    exact ⟨List.mem_map_of_mem h1, by rw [e]; exact of_decide_eq_true h2⟩
  · rintro ⟨h1, h2⟩
    obtain ⟨v, e⟩ := alk_in h1
    refine ⟨(y, v), List.mem_filter.mpr ⟨alk_mem e, decide_eq_true ?_⟩, rfl⟩
    have e2 : plc st y = v := by unfold plc; rw [e]; rfl
    rw [← e2]; exact h2
theorem settle_ok (st0 : Ak) (first : Str) : ∀ (f : Nat) {st : Ak}, AkInv nums recs st → unpl recs st ≤ d → first ∈ akeys st0.place → EffX nums recs (exS recs st0 first) st0 st → (∀ y ∈ since st first, y ∈ akeys st.ran ∨ y ∈ akeys st.set) →
    AkInv nums recs (settleM nums recs B f st first) ∧ EffX nums recs (exS recs st0 first) st0 (settleM nums recs B f st first) ∧ NW st (settleM nums recs B f st first) ∧ EffX nums recs (exS recs st0 first) st (settleM nums recs B f st first)
  | 0, st, i, _, _, e, _ => ⟨i, e, .same rfl, .refl _ _⟩
  | f + 1, st, i, hu, hf, e, sf => by
    have fp : first ∈ akeys st.place := e.plm hf
    unfold settleM
    split
    · exact ⟨i, e, .same rfl, .refl _ _⟩
    · cases er : risenM nums recs st first with
      | nil =>
        dsimp only
        have q1 : ∀ z ∈ since st first, z ∈ akeys recs ∧ (z ∈ akeys st.ran ∨ z ∈ akeys st.kept) := fun z hz => by
          refine ⟨i.pr z ((mem_since i.pd).mp hz).1, ?_⟩
          rcases sf z hz with q | q
          · exact .inl q
          · exact (i.sk z q).2
        have q2 : ∀ z ∈ since st first, ∀ k, alk st.kept z = some k → ∀ y ∈ akeys k.rc, y ∈ since st first ∨ y ∈ akeys st.set := fun z hz k ek y hy => by
          rcases sf z hz with q | q
          · exact absurd (in_alk ek) (i.rp z q).2
          · exact .inr (i.sg z q k ek y hy)
        have q3 : ∀ z ∈ since st first, z ∈ akeys st.ran ∨ ¬ Fx recs st z ∨ z ∈ akeys st.set := fun z hz => (sf z hz).imp id .inr
        obtain ⟨h1, h2⟩ := set_ok hn i q1 q2 q3
        exact ⟨h1, e.trans (h2.wide fun _ z => z.elim), .same rfl, h2.wide fun _ z => z.elim⟩
      | cons n t =>
        dsimp only
        have hn1 : n ∈ risenM nums recs st first := by rw [er]; exact List.mem_cons_self
        obtain ⟨nran, hb⟩ := List.mem_filter.mp hn1
        rw [Bool.and_eq_true] at hb
        have nsin := of_decide_eq_true hb.1
        obtain ⟨np, nle⟩ := (mem_since i.pd).mp nsin
        have nk := (i.rp n nran).2
        obtain ⟨rd, a, em, ea, erd, D, eev, inv, eff, nw, alk2, up, oth, own⟩ := run_ok hn hr b i hu np nk
        have exn : exS recs st0 first n := by
          refine ⟨i.pr n np, fun ⟨h1, h2⟩ => ?_, fun ⟨h1, h2⟩ => e.ns n h2 h1 np⟩
          rw [e.plc h1, e.plc hf] at nle
          omega
        have a1 := inv.l0 first
        have l1 := i.l0 first
        have l2 := inv.l0 n
        obtain ⟨i2, e2⟩ := low_ok inv (r := first) (eff.plm fp) (x := min (lw (runM nums recs B st n) first) (lw (runM nums recs B st n) n)) (by omega) (by have := inv.lp first (eff.plm fp); omega)
        have u2 : unpl recs (runM nums recs B st n) ≤ d := Nat.le_trans (unpl_le fun y hy => eff.plm hy) hu
        have e3 := (e.trans (eff.wide fun y z => by rw [z]; exact exn)).trans (e2 (exS recs st0 first))
        obtain ⟨g1, g2, g3, g4⟩ := settle_ok st0 first f i2 u2 hf e3 (fun y hy => by
          obtain ⟨y1, y2⟩ := (mem_since i2.pd).mp hy
          have y1' : y ∈ akeys (runM nums recs B st n).place := y1
          by_cases c : y ∈ akeys st.place
          · have y2' : plc st first ≤ plc st y := by
              have z1 := eff.plc c
              have z2 := eff.plc fp
              have y2'' : plc (runM nums recs B st n) first ≤ plc (runM nums recs B st n) y := y2
              omega
            exact (sf y ((mem_since i.pd).mpr ⟨c, y2'⟩)).imp (eff.rs y) (eff.se y)
          · exact nw y y1' c)
        refine ⟨g1, g2, fun y y1 y2 => ?_, ((eff.wide fun y z => by rw [z]; exact exn).trans (e2 (exS recs st0 first))).trans g4⟩
        by_cases c : y ∈ akeys (runM nums recs B st n).place
        · exact (nw y c y2).imp (g4.rs y) (g4.se y)
        · exact g3 y y1 c
end
end Aw

namespace Aw
open PySem L2
/-! ### a knot's works, and what they read outside -/
theorem foldl_grow (k : Kt) : ∀ (l ws : List Str), ∃ z, l.foldl (growW k) ws = ws ++ z ∧ (∀ x ∈ z, x ∈ l ∧ x ∈ akeys k.rn) ∧ (∀ x ∈ l, x ∈ akeys k.rn → x ∈ l.foldl (growW k) ws) ∧ (ws.Nodup → (l.foldl (growW k) ws).Nodup)
  | [], ws => ⟨[], (List.append_nil _).symm, (fun x h => by cases h), (fun x h => by cases h), fun h => h⟩
  | a :: l, ws => by
    obtain ⟨z, h1, h2, h3, h4⟩ := foldl_grow k l (growW k ws a)
    rw [List.foldl_cons]
    unfold growW at h1 h3 h4 ⊢
    by_cases c : a ∈ akeys k.rn ∧ a ∉ ws
    · rw [if_pos c] at h1 h3 h4 ⊢
      refine ⟨a :: z, by rw [h1, List.append_assoc]; rfl, fun x hx => ?_, fun x hx hk => ?_, fun nd => h4 ?_⟩
      · rcases List.mem_cons.mp hx with e | e
        · rw [e]; exact ⟨List.mem_cons_self, c.1⟩
        · exact ⟨List.mem_cons_of_mem _ (h2 x e).1, (h2 x e).2⟩
      · rcases List.mem_cons.mp hx with e | e
        · rw [h1, e]; exact List.mem_append_left _ (List.mem_append_right _ List.mem_cons_self)
        · exact h3 x e hk
      · rw [List.nodup_append]
        exact ⟨nd, by simp, fun x hx y hy e => c.2 (by rw [List.mem_singleton.mp hy] at e; rw [← e]; exact hx)⟩
    · rw [if_neg c] at h1 h3 h4 ⊢
      refine ⟨z, h1, fun x hx => ⟨List.mem_cons_of_mem _ (h2 x hx).1, (h2 x hx).2⟩, fun x hx hk => ?_, h4⟩
      rcases List.mem_cons.mp hx with e | e
      · have : x ∈ ws := Decidable.by_contra fun q => c (by rw [← e]; exact ⟨hk, q⟩)
        rw [h1]; exact List.mem_append_left _ this
      · exact h3 x e hk
theorem mem_namesRd {rd : List (Str × Int)} {s : Str} : s ∈ namesRd rd ↔ s ∈ rd.map (·.1) := mem_once
theorem mem_inK {k : Kt} {a b : Str} : b ∈ inK k a ↔ b ∈ (ktRd k a).map (·.1) ∧ b ∈ akeys k.rn := by
  unfold inK
  rw [List.mem_filter]
  exact and_congr_right fun _ => decide_eq_true_iff
/-- on the way: what is there is of the knot, each once, those ahead of the place have theirs there -/
structure WkS (k : Kt) (ws : List Str) (n : Nat) : Prop where
  nd : ws.Nodup
  sub : ∀ w ∈ ws, w ∈ akeys k.rn
  cl : ∀ i w, i < n → ws[i]? = some w → ∀ b ∈ inK k w, b ∈ ws
theorem worksM_ok (k : Kt) : ∀ (f : Nat) (ws : List Str) (n : Nat), WkS k ws n → k.rn.length + 1 ≤ f + n → n ≤ ws.length → (∀ w ∈ ws, w ∈ worksM k f ws n) ∧ (∀ w ∈ worksM k f ws n, w ∈ akeys k.rn ∧ ∀ b ∈ inK k w, b ∈ worksM k f ws n)
  | 0, ws, n, h, hf, hn => by
    have := nodup_sub h.nd (u := akeys k.rn) h.sub
    unfold akeys at this
    rw [List.length_map] at this
    omega
  | f + 1, ws, n, h, hf, hn => by
    unfold worksM
    cases e : ws[n]? with
    | none =>
      dsimp only
      refine ⟨fun w hw => hw, fun w hw => ⟨h.sub w hw, fun b hb => ?_⟩⟩
      obtain ⟨i, hi, ew⟩ := List.mem_iff_getElem.mp hw
      have le : ws.length ≤ n := List.getElem?_eq_none_iff.mp e
      exact h.cl i w (by omega) (by rw [List.getElem?_eq_getElem hi, ew]) b hb
    | some w =>
      dsimp only
      have hlt := (List.getElem?_eq_some_iff.mp e).1
      obtain ⟨z, h1, h2, h3, h4⟩ := foldl_grow k (namesRd (ktRd k w)) ws
      have st : WkS k ((namesRd (ktRd k w)).foldl (growW k) ws) (n + 1) := by
        refine ⟨h4 h.nd, fun x hx => ?_, fun i y hi hy b hb => ?_⟩
        · rw [h1] at hx
          exact (List.mem_append.mp hx).elim (h.sub x) fun q => (h2 x q).2
        · have e2 : ws[i]? = some y := by
            rw [h1, List.getElem?_append_left (by omega)] at hy
            exact hy
          by_cases c : i < n
          · rw [h1]; exact List.mem_append_left _ (h.cl i y c e2 b hb)
          · have : i = n := by omega
            rw [this, e] at e2
            cases e2
            obtain ⟨b1, b2⟩ := mem_inK.mp hb
            exact h3 b (mem_namesRd.mpr b1) b2
      obtain ⟨r1, r2⟩ := worksM_ok k f _ (n + 1) st (by omega) (by rw [h1, List.length_append]; omega)
      exact ⟨fun y hy => r1 y (by rw [h1]; exact List.mem_append_left _ hy), r2⟩
theorem mem_works {k : Kt} (ok : KtOk k) {e : Str} (he : e ∈ akeys k.rn) (f : Nat) (hf : k.rn.length + 1 ≤ f) (w : Str) : w ∈ worksM k f [e] 0 ↔ w ∈ akeys k.rn := by
  obtain ⟨r1, r2⟩ := worksM_ok k f [e] 0 ⟨by simp, fun w hw => by rw [List.mem_singleton.mp hw]; exact he, fun i w hi => absurd hi (Nat.not_lt_zero _)⟩ (by omega) (Nat.zero_le _)
  refine ⟨fun h => (r2 w h).1, fun h => ?_⟩
  have e0 := r1 e List.mem_cons_self
  rcases ok.con e he w h with c | c
  · rw [c]; exact e0
  · exact Rch.closed (S := fun x => x ∈ worksM k f [e] 0) (fun x hx => (r2 e e0).2 x hx) (fun x hx y hy => (r2 x hx).2 y hy) c
/-! what is read outside -/
theorem mem_allRd {k : Kt} {q : Str × Int} : q ∈ allRd k ↔ ∃ p ∈ k.rn, ∃ r ∈ p.2, q ∈ r.rd := by
  unfold allRd
  rw [List.mem_flatten]
  constructor
  · rintro ⟨l, hl, hq⟩
    obtain ⟨p, hp, rfl⟩ := List.mem_map.mp hl
    obtain ⟨l2, hl2, hq2⟩ := List.mem_flatten.mp hq
    obtain ⟨r, hr, rfl⟩ := List.mem_map.mp hl2
    exact ⟨p, hp, r, hr, hq2⟩
  · rintro ⟨p, hp, r, hr, hq⟩
    exact ⟨_, List.mem_map.mpr ⟨p, hp, rfl⟩, List.mem_flatten.mpr ⟨_, List.mem_map.mpr ⟨r, hr, rfl⟩, hq⟩⟩
theorem firstRd_ok {k : Kt} (ok : KtOk k) (n : Str) (a : Int) : (firstRd k n a).length ≤ 1000 ∧ ∀ q ∈ firstRd k n a, q ∈ allRd k := by
  unfold firstRd
  cases e : ((alk k.rn n).getD []).find? fun r => decide (a ≤ r.an) with
  | none => exact ⟨Nat.zero_le _, fun q h => by cases h⟩
  | some r =>
    have hr := List.mem_of_find?_eq_some e
    cases e2 : alk k.rn n with
    | none => rw [e2] at hr; cases hr
    | some rs =>
      rw [e2] at hr
      have hp := alk_mem e2
      exact ⟨((ok.ne _ hp).2 r hr).rl, fun q hq => mem_allRd.mpr ⟨_, hp, r, hr, hq⟩⟩
theorem lastRd_mem {rs : List Rn} {q : Str × Int} (h : q ∈ lastRd rs) : ∃ r ∈ rs, q ∈ r.rd := by
  unfold lastRd at h
  cases e : rs.getLast? with
  | none => rw [e] at h; cases h
  | some r => rw [e] at h; exact ⟨r, List.mem_of_getLast? e, h⟩
theorem ktRd_ok {k : Kt} (ok : KtOk k) (w : Str) : (ktRd k w).length ≤ 1000 ∧ ∀ q ∈ ktRd k w, q ∈ allRd k := by
  unfold ktRd
  cases e2 : alk k.rn w with
  | none => exact ⟨Nat.zero_le _, fun q h => by cases h⟩
  | some rs =>
    have hp := alk_mem e2
    constructor
    · show (lastRd rs).length ≤ 1000
      unfold lastRd
      cases e : rs.getLast? with
      | none => exact Nat.zero_le _
      | some r => exact ((ok.ne _ hp).2 r (List.mem_of_getLast? e)).rl
    · intro q hq
      obtain ⟨r, hr, h⟩ := lastRd_mem hq
      exact mem_allRd.mpr ⟨_, hp, r, hr, h⟩
/-- how much is still to be looked at -/
def muW (k : Kt) (seen wt : List (Str × Int)) : Nat := wt.length + 1001 * ((allRd k).filter fun q => decide (q ∉ seen)).length
theorem filt_lt2 {α : Type} {p q : α → Bool} {l : List α} (h : ∀ s ∈ l, p s = true → q s = true) {x : α} (hx : x ∈ l) (h1 : p x ≠ true) (h2 : q x = true) : (l.filter p).length < (l.filter q).length := by
  induction l with
  | nil => cases hx
  | cons a r ih =>
    have le : (r.filter p).length ≤ (r.filter q).length := by
      have hr : ∀ s ∈ r, p s = true → q s = true := fun s hs => h s (List.mem_cons_of_mem _ hs)
      clear ih hx h
      induction r with
      | nil => exact Nat.le_refl _
      | cons b t ih2 =>
        have := ih2 fun s hs => hr s (List.mem_cons_of_mem _ hs)
        by_cases c : p b = true
        · rw [List.filter_cons_of_pos c, List.filter_cons_of_pos (hr b List.mem_cons_self c)]
          simp only [List.length_cons]; omega
        · rw [List.filter_cons_of_neg c]
          by_cases c2 : q b = true
          · rw [List.filter_cons_of_pos c2, List.length_cons]; omega
          · rw [List.filter_cons_of_neg c2]; exact this
    by_cases e : a = x
    · rw [List.filter_cons_of_neg (by rw [e]; exact h1), List.filter_cons_of_pos (by rw [e]; exact h2), List.length_cons]; omega
    · have := ih (fun s hs => h s (List.mem_cons_of_mem _ hs)) ((List.mem_cons.mp hx).resolve_left fun z => e z.symm)
      by_cases c : p a = true
      · rw [List.filter_cons_of_pos c, List.filter_cons_of_pos (h a List.mem_cons_self c)]
        simp only [List.length_cons]; omega
      · rw [List.filter_cons_of_neg c]
        by_cases c2 : q a = true
        · rw [List.filter_cons_of_pos c2, List.length_cons]; omega
        · rw [List.filter_cons_of_neg c2]; exact this
theorem outW_ok {k : Kt} (ok : KtOk k) : ∀ (f : Nat) (out seen wt : List (Str × Int)), (∀ q ∈ wt, q ∈ allRd k) → muW k seen wt ≤ f →
    ∃ z, (outW k f out seen wt).1 = out ++ z ∧ (∀ q ∈ z, q.1 ∉ akeys k.rn ∧ q ∈ allRd k) ∧ ∀ q ∈ wt, q.1 ∉ akeys k.rn → q ∈ (outW k f out seen wt).1
  | 0, out, seen, wt, _, hm => by
    unfold muW at hm
    have : wt = [] := List.length_eq_zero_iff.mp (by omega)
    rw [this]
    exact ⟨[], (List.append_nil _).symm, (fun q h => by cases h), fun q h => by cases h⟩
  | f + 1, out, seen, [], _, _ => ⟨[], (List.append_nil _).symm, (fun q h => by cases h), fun q h => by cases h⟩
  | f + 1, out, seen, q :: r, hw, hm => by
    have hr : ∀ y ∈ r, y ∈ allRd k := fun y hy => hw y (List.mem_cons_of_mem _ hy)
    have hq := hw q List.mem_cons_self
    have hm1 : muW k seen r ≤ f := by unfold muW at hm ⊢; rw [List.length_cons] at hm; omega
    unfold outW
    dsimp only
    by_cases c : q.1 ∉ akeys k.rn
    · rw [if_pos c]
      obtain ⟨z, h1, h2, h3⟩ := outW_ok ok f (out ++ [q]) seen r hr hm1
      refine ⟨q :: z, by rw [h1, List.append_assoc]; rfl, fun y hy => ?_, fun y hy hk => ?_⟩
      · rcases List.mem_cons.mp hy with e | e
        · rw [e]; exact ⟨c, hq⟩
        · exact h2 y e
      · rcases List.mem_cons.mp hy with e | e
        · rw [h1, e]; exact List.mem_append_left _ (List.mem_append_right _ List.mem_cons_self)
        · exact h3 y e hk
    · rw [if_neg c]
      by_cases c2 : 0 < q.2 ∧ q ∉ seen
      · rw [if_pos c2]
        obtain ⟨fl, fs⟩ := firstRd_ok ok q.1 q.2
        have lt : ((allRd k).filter fun y => decide (y ∉ seen ++ [q])).length < ((allRd k).filter fun y => decide (y ∉ seen)).length :=
          filt_lt2 (fun y _ h => by simp only [decide_eq_true_eq, List.mem_append, not_or] at h ⊢; exact h.1) hq (by simp) (by simpa using c2.2)
        obtain ⟨z, h1, h2, h3⟩ := outW_ok ok f out (seen ++ [q]) (firstRd k q.1 q.2 ++ r) (fun y hy => (List.mem_append.mp hy).elim (fs y) (hr y)) (by
          unfold muW at hm ⊢
          rw [List.length_cons] at hm
          rw [List.length_append]
          omega)
        refine ⟨z, h1, h2, fun y hy hk => ?_⟩
        rcases List.mem_cons.mp hy with e | e
        · rw [e] at hk; exact absurd hk c
        · exact h3 y (List.mem_append_right _ e) hk
      · rw [if_neg c2]
        obtain ⟨z, h1, h2, h3⟩ := outW_ok ok f out seen r hr hm1
        refine ⟨z, h1, h2, fun y hy hk => ?_⟩
        rcases List.mem_cons.mp hy with e | e
        · rw [e] at hk; exact absurd hk c
        · exact h3 y e hk
theorem outL_ok {k : Kt} (ok : KtOk k) {f : Nat} (hf : 1001 * ((allRd k).length + 1) ≤ f) : ∀ (ws : List Str) (out seen : List (Str × Int)),
    ∃ z, outL k f ws out seen = out ++ z ∧ (∀ q ∈ z, q.1 ∉ akeys k.rn ∧ q ∈ allRd k) ∧ ∀ w ∈ ws, ∀ q ∈ ktRd k w, q.1 ∉ akeys k.rn → q ∈ outL k f ws out seen
  | [], out, seen => ⟨[], (List.append_nil _).symm, (fun q h => by cases h), fun q h => by cases h⟩
  | w :: ws, out, seen => by
    obtain ⟨kl, ks⟩ := ktRd_ok ok w
    have le : ((allRd k).filter fun y => decide (y ∉ seen)).length ≤ (allRd k).length := List.length_filter_le _ _
    obtain ⟨z, h1, h2, h3⟩ := outW_ok ok f out seen (ktRd k w) ks (by unfold muW; omega)
    obtain ⟨y, g1, g2, g3⟩ := outL_ok ok hf ws (outW k f out seen (ktRd k w)).1 (outW k f out seen (ktRd k w)).2
    unfold outL
    refine ⟨z ++ y, by rw [g1, h1, List.append_assoc], fun q hq => (List.mem_append.mp hq).elim (h2 q) (g2 q), fun v hv q hq hk => ?_⟩
    rcases List.mem_cons.mp hv with e | e
    · rw [e] at hq
      rw [g1]
      exact List.mem_append_left _ (h3 q hq hk)
    · exact g3 v e q hq hk
/-- the names outside are the same from wherever they are looked for -/
theorem mem_outM {k : Kt} (ok : KtOk k) {e : Str} (he : e ∈ akeys k.rn) (s : Str) : s ∈ (outM k e).map (·.1) ↔ s ∉ akeys k.rn ∧ s ∈ (allRd k).map (·.1) := by
  have hf : 1001 * ((allRd k).length + 1) ≤ fuelK k := by unfold fuelK; omega
  have hg : k.rn.length + 1 ≤ fuelK k := by unfold fuelK; omega
  obtain ⟨z, h1, h2, h3⟩ := outL_ok ok hf (worksM k (fuelK k) [e] 0) [] []
  unfold outM
  constructor
  · intro h
    obtain ⟨q, hq, rfl⟩ := List.mem_map.mp h
    rw [h1, List.nil_append] at hq
    exact ⟨(h2 q hq).1, List.mem_map_of_mem (h2 q hq).2⟩
  · rintro ⟨n, h⟩
    obtain ⟨q, hq, rfl⟩ := List.mem_map.mp h
    obtain ⟨p, hp, r, hr, hq2⟩ := mem_allRd.mp hq
    obtain ⟨q2, hq3, e2⟩ := List.mem_map.mp (ok.sub p hp r hr q hq2)
    have ep : ktRd k p.1 = lastRd p.2 := by
      unfold ktRd
      have nd : (akeys k.rn).Nodup := by rw [ok.ke]; exact ok.nd
      rw [mem_alk nd hp]
      rfl
    rw [← e2]
    exact List.mem_map_of_mem (h3 p.1 ((mem_works ok he _ hg _).mpr (List.mem_map_of_mem hp)) q2 (by rw [ep]; exact hq3) (by rw [e2]; exact n))
end Aw

namespace Aw
open PySem L2
/-! ### what is begun is not settled on the way -/
mutual
theorem ans_inv {S : Type} {o : S → Str → Int} {n : S → Str → S} {J : S → Prop} (h : ∀ x s, J x → J (n x s)) : ∀ (t : T) (x : S), J x → J (ans o n t x).2
  | .num k, x, j => by unfold ans; exact j
  | .name s, x, j => by unfold ans; exact h x s j
  | .gate s b t, x, j => by
    unfold ans
    split
    · exact h x s j
    · exact ans_inv h t _ (h x s j)
  | .join .sum ts, x, j => by unfold ans; exact anss_inv h ts x j
  | .join .most ts, x, j => by unfold ans; exact anss_inv h ts x j
  | .join .least ts, x, j => by unfold ans; exact ansl_inv h ts 30 x j
theorem anss_inv {S : Type} {o : S → Str → Int} {n : S → Str → S} {J : S → Prop} (h : ∀ x s, J x → J (n x s)) : ∀ (ts : List T) (x : S), J x → J (anss o n ts x).2
  | [], x, j => by unfold anss; exact j
  | t :: r, x, j => by unfold anss; exact anss_inv h r _ (ans_inv h t x j)
theorem ansl_inv {S : Type} {o : S → Str → Int} {n : S → Str → S} {J : S → Prop} (h : ∀ x s, J x → J (n x s)) : ∀ (ts : List T) (c : Int) (x : S), J x → J (ansl o n ts c x).2
  | [], c, x, j => by unfold ansl; exact j
  | t :: r, c, x, j => by
    unfold ansl
    split
    · exact ansl_inv h r _ _ (ans_inv h t x j)
    · exact j
end
/-- P: the works that are begun; z: the one that is begun now -/
structure PI (recs : AL T) (N : Nat) (P : Str → Prop) (z : Str) (st : Ak) : Prop where
  ps : ∀ y, P y → y ∈ akeys st.place ∧ y ∉ akeys st.set
  pk : ∀ y, P y → ∀ k, alk st.kept y = some k → ∃ q, (P q ∨ q = z) ∧ q ∉ akeys k.rn ∧ q ∈ (allRd k).map (·.1)
  tb : st.ended.length + phi recs st ≤ N
structure PZ (recs : AL T) (N : Nat) (P : Str → Prop) (z : Str) (st : Ak) : Prop where
  pi : PI recs N P z st
  zp : z ∈ akeys st.place
  zs : z ∉ akeys st.set
section
variable (nums : AL Int) (recs : AL T)
def BQ (d : Nat) (B : Ak → Str → Ak) : Prop := ∀ (N : Nat) (P : Str → Prop) st z, AkInv nums recs st → z ∈ akeys recs → z ∉ akeys st.place → z ∉ akeys st.set → unpl recs st ≤ d → PI recs N P z st → PI recs N P z (B st z)
variable {nums recs} {N : Nat}
theorem PI.eff {P : Str → Prop} {z : Str} {ex : Str → Prop} {st st' : Ak} (h : PI recs N P z st) (e : EffX nums recs ex st st') (ns : ∀ y, P y → y ∉ akeys st'.set) (tb : st'.ended.length + phi recs st' ≤ N) : PI recs N P z st' :=
  ⟨fun y hy => ⟨e.plm (h.ps y hy).1, ns y hy⟩, fun y hy k ek => h.pk y hy k (e.kp y k ek), tb⟩
theorem PZ.up {P : Str → Prop} {z s : Str} {st : Ak} (h : PZ recs N P z st) (hz : ∀ k, alk st.kept z = some k → s ∉ akeys k.rn ∧ s ∈ (allRd k).map (·.1)) : PI recs N (fun y => P y ∨ y = z) s st := by
  refine ⟨fun y hy => ?_, fun y hy k ek => ?_, h.pi.tb⟩
  · rcases hy with q | q
    · exact h.pi.ps y q
    · rw [q]; exact ⟨h.zp, h.zs⟩
  · rcases hy with q | q
    · obtain ⟨x, h1, h2⟩ := h.pi.pk y q k ek
      exact ⟨x, .inl h1, h2⟩
    · rw [q] at ek; exact ⟨s, .inr rfl, hz k ek⟩
theorem PZ.down {P : Str → Prop} {z s : Str} {ex : Str → Prop} {st st' : Ak} (h : PZ recs N P z st) (e : EffX nums recs ex st st') (h' : PI recs N (fun y => P y ∨ y = z) s st') : PZ recs N P z st' :=
  ⟨h.pi.eff e (fun y hy => (h'.ps y (.inl hy)).2) h'.tb, (h'.ps z (.inr rfl)).1, (h'.ps z (.inr rfl)).2⟩
theorem lw_low {st : Ak} {r : Str} {x : Int} (y : Str) : lw { st with low := aput st.low r x } y = if y = r then x else lw st y := by
  unfold lw
  dsimp only
  rw [alk_put]
  split <;> rfl
variable (hn : NumOk nums) (hr : RecOk recs) {d : Nat} {B : Ak → Str → Ak} (b : BOk nums recs d B) (bq : BQ nums recs d B)
include b bq
theorem come_pi {Q : Str → Prop} {st : Ak} (i : AkInv nums recs st) (hu : unpl recs st ≤ d) {s r : Str} (hr : r ∈ akeys st.place) (h : PI recs N Q s st) :
    PI recs N Q s (comeM recs B st s r) ∧ (s ∈ akeys recs → s ∉ akeys st.set → lw (comeM recs B st s r) r ≤ plc (comeM recs B st s r) s) := by
  by_cases c : s ∉ akeys recs ∨ s ∈ akeys st.set
  · rw [come_skip c]
    exact ⟨h, fun h1 h2 => absurd c (by simp [h1, h2])⟩
  · have c1 : s ∈ akeys recs := Decidable.by_contra fun z => c (.inl z)
    have c2 : s ∉ akeys st.set := fun z => c (.inr z)
    unfold comeM
    rw [if_neg c]
    dsimp only
    have key : ∀ st1, AkInv nums recs st1 → PI recs N Q s st1 → s ∈ akeys st1.place → PI recs N Q s { st1 with low := aput st1.low r (min (lw st1 r) (lw st1 s)) } ∧ (s ∈ akeys recs → s ∉ akeys st.set → lw { st1 with low := aput st1.low r (min (lw st1 r) (lw st1 s)) } r ≤ plc { st1 with low := aput st1.low r (min (lw st1 r) (lw st1 s)) } s) := by
      intro st1 i1 p1 s1
      refine ⟨⟨p1.ps, p1.pk, p1.tb⟩, fun _ _ => ?_⟩
      rw [lw_low, if_pos rfl]
      have := i1.lp s s1
      show min (lw st1 r) (lw st1 s) ≤ plc st1 s
      omega
    by_cases p : s ∉ akeys st.place
    · rw [if_pos p]
      obtain ⟨h1, h2, h3, h4, h5⟩ := b.ok st s i c1 p c2 hu
      exact key _ h1 (bq N Q st s i c1 p c2 hu h) h4
    · have p' : s ∈ akeys st.place := Decidable.by_contra p
      rw [if_neg p]
      by_cases k : s ∈ akeys st.kept
      · rw [if_pos k]
        obtain ⟨h1, h2, h3, h4, h5, h6, h7, h8⟩ := go_ok i c2
        exact key _ h1 (h.eff h2 (fun y hy => by rw [h6]; exact (h.ps y hy).2) (by rw [h8]; exact Nat.le_trans (Nat.add_le_add_left (phi_le h2) _) h.tb)) (h2.plm p')
      · rw [if_neg k]
        exact key _ i h p'
include hn hr
/-- a run -/
theorem run_pi {P : Str → Prop} {z : Str} {st : Ak} (i : AkInv nums recs st) (hu : unpl recs st ≤ d) {n : Str} (np : n ∈ akeys st.place) (nk : n ∉ akeys st.kept) (h : PZ recs N P z st) (zk : z ∉ akeys st.kept) (hrun : n ∉ akeys st.ran ∨ hasRisen nums recs st n = true) : PZ recs N P z (runM nums recs B st n) := by
  obtain ⟨rd, a, em, ea, erd, D, eev, inv, eff, nw, alk2, up, oth, own⟩ := run_ok hn hr b i hu np nk
  have nr := i.pr n np
  have W := ans_inv (o := askO nums recs B n) (n := askN nums recs B n) (J := fun x => Wk nums recs d n x ∧ PZ recs N P z x.1 ∧ z ∉ akeys x.1.kept) (fun x s ⟨w, pz, k⟩ => by
    have D1 := ask_did hn b n w s
    have u := pz.up (s := s) fun k' e => absurd (in_alk e) k
    exact ⟨D1.w, pz.down D1.e (come_pi b bq w.i w.u w.p u).1, D1.e.kn k⟩) (recOf recs n) (st, []) ⟨⟨i, hu, np⟩, h, zk⟩
  obtain ⟨_, pz, _⟩ := W
  have pz : PZ recs N P z (runOf nums recs B st n).2.1 := pz
  have De : EffX nums recs (fun _ => False) st (runOf nums recs B st n).2.1 := D.e
  have Dw : AkInv nums recs (runOf nums recs B st n).2.1 := D.w.i
  have se2 : (runM nums recs B st n).set = (runOf nums recs B st n).2.1.set := by rw [em]; rfl
  have ph := run_phi2 hn hr b i hu np nk hrun
  have el : (runM nums recs B st n).ended.length = (runOf nums recs B st n).2.1.ended.length + 1 := by
    rw [em]
    show ((runOf nums recs B st n).2.1.ended ++ [_]).length = _
    rw [List.length_append]; rfl
  have tb := pz.pi.tb
  exact ⟨h.pi.eff eff (fun y hy => by rw [se2]; exact (pz.pi.ps y hy).2) (by omega), eff.plm h.zp, by rw [se2]; exact pz.zs⟩
omit hn hr in
/-- whether a kept knot is good -/
theorem goodL_pi {P : Str → Prop} {z : Str} : ∀ (l : List (Str × Int)) {st : Ak}, AkInv nums recs st → unpl recs st ≤ d → PZ recs N P z st → (∀ y, P y → plc st y < plc st z) →
    (∀ k, alk st.kept z = some k → ∀ q ∈ l, q.1 ∉ akeys k.rn ∧ q.1 ∈ (allRd k).map (·.1)) →
    PZ recs N P z (goodL nums recs B z l st).2 ∧ ((goodL nums recs B z l st).1 = true → ∀ q ∈ l, ¬ P q.1)
  | [], st, _, _, h, _, _ => ⟨h, fun _ q hq => by cases hq⟩
  | q :: r, st, i, hu, h, lt, hz => by
    obtain ⟨h1, h2, _, _, h5⟩ := come_ok b i hu (s := q.1) h.zp
    obtain ⟨p1, p2⟩ := come_pi b bq i hu (s := q.1) h.zp (h.up fun k e => hz k e q List.mem_cons_self)
    have pz := h.down h2 p1
    unfold goodL
    dsimp only
    split
    · exact ⟨pz, fun z => by cases z⟩
    · next c =>
      obtain ⟨g1, g2⟩ := goodL_pi r h1 (Nat.le_trans (unpl_le fun y hy => h2.plm hy) hu) pz (fun y hy => by rw [h2.plc (h.pi.ps y hy).1, h2.plc h.zp]; exact lt y hy) (fun k e y hy => hz k (h2.kp _ _ e) y (List.mem_cons_of_mem _ hy))
      refine ⟨g1, fun gt y hy py => ?_⟩
      rcases List.mem_cons.mp hy with e | e
      · rw [e] at py
        obtain ⟨q1, q2⟩ := h.pi.ps q.1 py
        have a1 := p2 (i.pr _ q1) q2
        rw [h2.plc q1] at a1
        have a2 := lt q.1 py
        rw [← h2.plc h.zp] at a2
        exact c (.inr (.inl (by omega)))
      · exact g2 gt y e py
/-- settled -/
theorem settle_pi {P : Str → Prop} {z : Str} : ∀ (f : Nat) {st : Ak}, AkInv nums recs st → unpl recs st ≤ d → PZ recs N P z st → z ∉ akeys st.kept → (∀ y, P y → plc st y < plc st z) → (∀ y ∈ since st z, y ∈ akeys st.ran ∨ y ∈ akeys st.set) → PI recs N P z (settleM nums recs B f st z)
  | 0, st, _, _, h, _, _, _ => h.pi
  | f + 1, st, i, hu, h, zk, lt, sf => by
    unfold settleM
    split
    · exact h.pi
    · cases er : risenM nums recs st z with
      | nil =>
        dsimp only
        have q1 : ∀ y ∈ since st z, y ∈ akeys recs ∧ (y ∈ akeys st.ran ∨ y ∈ akeys st.kept) := fun y hy => by
          refine ⟨i.pr y ((mem_since i.pd).mp hy).1, ?_⟩
          rcases sf y hy with q | q
          · exact .inl q
          · exact (i.sk y q).2
        have q2 : ∀ y ∈ since st z, ∀ k, alk st.kept y = some k → ∀ x ∈ akeys k.rc, x ∈ since st z ∨ x ∈ akeys st.set := fun y hy k ek x hx => by
          rcases sf y hy with q | q
          · exact absurd (in_alk ek) (i.rp y q).2
          · exact .inr (i.sg y q k ek x hx)
        have q3 : ∀ y ∈ since st z, y ∈ akeys st.ran ∨ ¬ Fx recs st y ∨ y ∈ akeys st.set := fun y hy => (sf y hy).imp id .inr
        obtain ⟨h1, h2⟩ := set_ok hn i q1 q2 q3
        refine h.pi.eff h2 (fun y hy c => ?_) (Nat.le_trans (Nat.add_le_add_left (phi_le h2) _) h.pi.tb)
        rcases mem_setAll.mp c with c | c
        · exact (h.pi.ps y hy).2 c
        · have a1 := ((mem_since i.pd).mp c).2
          have a2 := lt y hy
          omega
      | cons n t =>
        dsimp only
        have hn1 : n ∈ risenM nums recs st z := by rw [er]; exact List.mem_cons_self
        obtain ⟨nran, hb⟩ := List.mem_filter.mp hn1
        rw [Bool.and_eq_true] at hb
        have nsin := of_decide_eq_true hb.1
        obtain ⟨np, nle⟩ := (mem_since i.pd).mp nsin
        have nk := (i.rp n nran).2
        obtain ⟨rd, a, em, ea, erd, D, eev, inv, eff, nw, alk2, up, oth, own⟩ := run_ok hn hr b i hu np nk
        have pz := run_pi hn hr b bq i hu np nk h zk (.inr hb.2)
        have zp2 := pz.zp
        have a1 := inv.l0 z
        have l2 := inv.l0 n
        obtain ⟨i2, e2⟩ := low_ok inv (r := z) zp2 (x := min (lw (runM nums recs B st n) z) (lw (runM nums recs B st n) n)) (by omega) (by have := inv.lp z zp2; omega)
        have u2 : unpl recs (runM nums recs B st n) ≤ d := Nat.le_trans (unpl_le fun y hy => eff.plm hy) hu
        refine settle_pi f i2 u2 ⟨⟨pz.pi.ps, pz.pi.pk, pz.pi.tb⟩, pz.zp, pz.zs⟩ (eff.kn zk) (fun y hy => ?_) (fun y hy => ?_)
        · show plc (runM nums recs B st n) y < plc (runM nums recs B st n) z
          rw [eff.plc (h.pi.ps y hy).1, eff.plc h.zp]
          exact lt y hy
        · obtain ⟨y1, y2⟩ := (mem_since i2.pd).mp hy
          have y1' : y ∈ akeys (runM nums recs B st n).place := y1
          by_cases c : y ∈ akeys st.place
          · have y2' : plc st z ≤ plc st y := by
              have z1 := eff.plc c
              have z2 := eff.plc h.zp
              have y2'' : plc (runM nums recs B st n) z ≤ plc (runM nums recs B st n) y := y2
              omega
            exact (sf y ((mem_since i.pd).mpr ⟨c, y2'⟩)).imp (eff.rs y) (eff.se y)
          · exact nw y y1' c
end
end Aw

namespace Aw
open PySem L2
/-! ### begun -/
section
variable {nums : AL Int} {recs : AL T} {N : Nat}
theorem EffX.narrow {ex : Str → Prop} {a b : Ak} (h : EffX nums recs ex a b) (h1 : ∀ y, Fx recs a y → ¬ ex y) (h2 : ∀ y ∈ akeys a.place, ¬ ex y) : EffX nums recs (fun _ => False) a b :=
  ⟨fun y f _ => h.cst y f (h1 y f), h.mono, h.fx, h.pl, h.se, h.kp, fun y hy _ => h.rn y hy (h2 y hy), h.rs, h.ph, h.ns⟩
theorem plc_lt {st : Ak} (i : AkInv nums recs st) {y : Str} (hy : y ∈ akeys st.place) : plc st y < st.place.length := by
  obtain ⟨v, e⟩ := alk_in hy
  obtain ⟨j, hj, ej⟩ := List.mem_iff_getElem.mp (alk_mem e)
  have e2 := i.pv j y v (by rw [List.getElem?_eq_getElem hj, ej])
  unfold plc
  rw [e]
  show v < _
  omega
variable (hn : NumOk nums) (hr : RecOk recs) {d : Nat} {B : Ak → Str → Ak} (b : BOk nums recs d B) (bq : BQ nums recs d B)
include hn hr b bq
theorem goodM_pi {P : Str → Prop} {z : Str} {st : Ak} (i : AkInv nums recs st) (hu : unpl recs st ≤ d) (h : PZ recs N P z st) (lt : ∀ y, P y → plc st y < plc st z) :
    PZ recs N P z (goodM nums recs B st z).2 ∧ ((goodM nums recs B st z).1 = true → ∀ k, alk st.kept z = some k → ∀ s, s ∉ akeys k.rn → s ∈ (allRd k).map (·.1) → ¬ P s) := by
  unfold goodM
  cases e : alk st.kept z with
  | none => exact ⟨h, fun z => by cases z⟩
  | some k =>
    dsimp only
    obtain ⟨ok, self, _⟩ := i.kp.get e
    have zk : z ∈ akeys k.rn := by rw [ok.ke]; exact self
    split
    · exact ⟨h, fun z => by cases z⟩
    · obtain ⟨g1, g2⟩ := goodL_pi b bq (outM k z) i hu h lt fun k' e' q hq => by
        rw [e] at e'
        cases e'
        exact (mem_outM ok zk q.1).mp (List.mem_map_of_mem hq)
      refine ⟨g1, fun t k' e' s s1 s2 => ?_⟩
      cases e'
      obtain ⟨q, hq, rfl⟩ := List.mem_map.mp ((mem_outM ok zk s).mpr ⟨s1, s2⟩)
      exact g2 t q hq
theorem begin_ok : BOk nums recs (d + 1) (beginOf nums recs B) ∧ BQ nums recs (d + 1) (beginOf nums recs B) := by
  have main : ∀ (N : Nat) (P : Str → Prop) st z, AkInv nums recs st → z ∈ akeys recs → z ∉ akeys st.place → z ∉ akeys st.set → unpl recs st ≤ d + 1 → PI recs N P z st →
      (AkInv nums recs (beginOf nums recs B st z) ∧ EffX nums recs (fun _ => False) st (beginOf nums recs B st z) ∧ Fx recs (beginOf nums recs B st z) z ∧ z ∈ akeys (beginOf nums recs B st z).place ∧ NW st (beginOf nums recs B st z)) ∧ PI recs N P z (beginOf nums recs B st z) := by
    intro N P st z i hz hp hs hu hP
    obtain ⟨i1, e1, zp1, k1, r1, s1, p1⟩ := place_ok i hz hp hs
    have u1 : unpl recs (placeM st z) ≤ d := by
      have := unpl_lt (st := st) (st' := placeM st z) (fun y hy => e1.plm hy) hz hp zp1
      omega
    have pz1 : PZ recs N P z (placeM st z) := ⟨hP.eff e1 (fun y hy => by rw [s1]; exact (hP.ps y hy).2) (Nat.le_trans (Nat.add_le_add_left (phi_le e1) _) hP.tb), zp1, by rw [s1]; exact hs⟩
    have plz : plc (placeM st z) z = st.place.length := by
      show (alk (aput st.place z ((st.place.length : Nat) : Int)) z).getD 0 = _
      rw [alk_put, if_pos rfl]
      rfl
    have ltp : ∀ y ∈ akeys st.place, plc (placeM st z) y < plc (placeM st z) z := fun y hy => by
      rw [plz, e1.plc hy]
      exact plc_lt i hy
    have inp : ∀ y ∈ akeys (placeM st z).place, y ∈ akeys st.place ∨ y = z := fun y hy => by
      rw [p1] at hy
      unfold akeys at hy
      rw [List.map_append] at hy
      exact (List.mem_append.mp hy).imp id fun q => List.mem_singleton.mp q
    obtain ⟨gi, ge, gn, gk⟩ := goodM_ok hn hr b i1 u1 zp1
    obtain ⟨pz2, gP⟩ := goodM_pi hn hr b bq i1 u1 pz1 fun y hy => ltp y (hP.ps y hy).1
    unfold beginOf
    dsimp only
    revert gi ge gn gk pz2 gP
    generalize goodM nums recs B (placeM st z) z = g
    intro gi ge gn gk pz2 gP
    have e02 := e1.trans ge
    by_cases c : g.1 = true
    · rw [if_pos c]
      obtain ⟨k, ek, od⟩ := gk c
      rw [ek]
      dsimp only
      obtain ⟨ok, self, all⟩ := gi.kp.get ek
      have ek1 := ge.kp _ _ ek
      have rcs : ∀ y ∈ akeys k.rc, y ∈ akeys recs := fun y hy => by
        obtain ⟨p, hp', rfl⟩ := List.mem_map.mp hy
        exact in_alk (Classical.byContradiction fun q => od ⟨p, hp', q⟩ : alk recs p.1 = some p.2)
      obtain ⟨h1, h2⟩ := set_ok hn gi (l := akeys k.rc) (fun y hy => ⟨rcs y hy, .inr (in_alk (all y hy))⟩) (fun y hy k' e' x hx => by
        rw [all y hy] at e'
        cases e'
        exact .inl hx) (fun y hy => by
        by_cases q : y ∈ akeys g.2.set
        · exact .inr (.inr q)
        · refine .inr (.inl fun f => ?_)
          rcases f with f | f | f
          · exact f (rcs y hy)
          · exact q f
          · exact f.2 (in_alk (all y hy)))
      refine ⟨⟨h1, e02.trans h2, .inr (.inl (mem_setAll.mpr (.inr self))), ge.plm zp1, fun y y1 y2 => ?_⟩, pz2.pi.eff h2 (fun y hy q => ?_) (Nat.le_trans (Nat.add_le_add_left (phi_le h2) _) pz2.pi.tb)⟩
      · have y1' : y ∈ akeys g.2.place := y1
        by_cases q : y ∈ akeys (placeM st z).place
        · rcases inp y q with w | w
          · exact absurd w y2
          · rw [w]; exact .inr (mem_setAll.mpr (.inr self))
        · exact (gn y y1' q).imp id fun w => mem_setAll.mpr (.inl w)
      · rcases mem_setAll.mp q with q | q
        · exact (pz2.pi.ps y hy).2 q
        · obtain ⟨x, hx, x1, x2⟩ := pz1.pi.pk y hy k (ge.kp _ _ (all y q))
          rcases hx with hx | hx
          · exact gP c k ek1 x x1 x2 hx
          · rw [hx, ok.ke] at x1
            exact x1 self
    · rw [if_neg c]
      obtain ⟨i3, e3, zk3, p3, r3, s3, l3, d3⟩ := go_ok gi pz2.zs
      have pz3 : PZ recs N P z (goM g.2 z) := ⟨pz2.pi.eff e3 (fun y hy => by rw [s3]; exact (pz2.pi.ps y hy).2) (by rw [d3]; exact Nat.le_trans (Nat.add_le_add_left (phi_le e3) _) pz2.pi.tb), e3.plm pz2.zp, by rw [s3]; exact pz2.zs⟩
      have u3 : unpl recs (goM g.2 z) ≤ d := Nat.le_trans (unpl_le fun y hy => e3.plm (ge.plm hy)) u1
      obtain ⟨rd, a, em, ea, erd, D, eev, inv, eff, nw, alk2, up, oth, own⟩ := run_ok hn hr b i3 u3 pz3.zp zk3
      have zran : z ∉ akeys (goM g.2 z).ran := by
        rw [r3]
        refine alk_none.mp ?_
        rw [ge.rn z zp1 (fun q => q), r1]
        exact alk_none.mpr fun q => hp (i.rp z q).1
      have pz4 := run_pi hn hr b bq i3 u3 pz3.zp zk3 pz3 zk3 (.inl zran)
      have u4 : unpl recs (runM nums recs B (goM g.2 z) z) ≤ d := Nat.le_trans (unpl_le fun y hy => eff.plm hy) u3
      have e03 := e02.trans e3
      have pl0 : ∀ y ∈ akeys st.place, plc (runM nums recs B (goM g.2 z) z) y < plc (runM nums recs B (goM g.2 z) z) z := fun y hy => by
        rw [eff.plc (e03.plm hy), e3.plc (e02.plm hy), ge.plc (e1.plm hy), eff.plc pz3.zp, e3.plc pz2.zp, ge.plc zp1]
        exact ltp y hy
      have nw4 : ∀ y ∈ akeys (runM nums recs B (goM g.2 z) z).place, y ∉ akeys st.place → y ∈ akeys (runM nums recs B (goM g.2 z) z).ran ∨ y ∈ akeys (runM nums recs B (goM g.2 z) z).set := fun y y1 y2 => by
        by_cases q : y ∈ akeys (placeM st z).place
        · rcases inp y q with w | w
          · exact absurd w y2
          · rw [w]; exact .inl (in_alk alk2)
        · by_cases q2 : y ∈ akeys g.2.place
          · rcases gn y q2 q with w | w
            · exact .inl (eff.rs y (e3.rs y w))
            · exact .inr (eff.se y (e3.se y w))
          · exact nw y y1 (by rw [p3]; exact q2)
      have sf : ∀ y ∈ since (runM nums recs B (goM g.2 z) z) z, y ∈ akeys (runM nums recs B (goM g.2 z) z).ran ∨ y ∈ akeys (runM nums recs B (goM g.2 z) z).set := fun y hy => by
        obtain ⟨y1, y2⟩ := (mem_since inv.pd).mp hy
        refine nw4 y y1 fun q => ?_
        have := pl0 y q
        omega
      have zk4 : z ∉ akeys (runM nums recs B (goM g.2 z) z).kept := eff.kn zk3
      obtain ⟨t1, t2, t3, t4⟩ := settle_ok hn hr b (runM nums recs B (goM g.2 z) z) z (fuelS recs) inv u4 pz4.zp (.refl _ _) sf
      have t5 := settle_pi hn hr b bq (fuelS recs) inv u4 pz4 zk4 (fun y hy => pl0 y (hP.ps y hy).1) sf
      have e04 : EffX nums recs (fun y => y = z ∨ exS recs (runM nums recs B (goM g.2 z) z) z y) st (settleM nums recs B (fuelS recs) (runM nums recs B (goM g.2 z) z) z) :=
        ((e03.wide fun _ q => q.elim).trans (eff.wide fun _ q => .inl q)).trans (t2.wide fun _ q => .inr q)
      have nex : ∀ y ∈ akeys st.place, ¬ (y = z ∨ exS recs (runM nums recs B (goM g.2 z) z) z y) := fun y hy q => by
        rcases q with q | ⟨_, q, _⟩
        · rw [q] at hy; exact hp hy
        · exact q ⟨eff.plm (e03.plm hy), pl0 y hy⟩
      refine ⟨⟨t1, e04.narrow (fun y f q => ?_) nex, .inr (.inr ⟨t2.plm pz4.zp, t2.kn zk4⟩), t2.plm pz4.zp, fun y y1 y2 => ?_⟩, t5⟩
      · rcases f with f | f | f
        · rcases q with q | q
          · rw [q] at f; exact f hz
          · exact f q.1
        · by_cases w : y ∈ akeys st.place
          · exact nex y w q
          · rcases q with q | ⟨_, _, q⟩
            · rw [q] at f; exact hs f
            · have yz : y ≠ z := fun q => by rw [q] at f; exact hs f
              have n3 : y ∉ akeys (goM g.2 z).place := e03.ns y f w
              exact q ⟨eff.ns y (e03.se y f) n3, eff.se y (e03.se y f)⟩
        · exact nex y f.1 q
      · by_cases q : y ∈ akeys (runM nums recs B (goM g.2 z) z).place
        · exact (nw4 y q y2).imp (t4.rs y) (t4.se y)
        · exact t3 y y1 q
  exact ⟨⟨fun st z i hz hp hs hu => (main _ (fun _ => False) st z i hz hp hs hu ⟨fun _ h => h.elim, fun _ h => h.elim, Nat.le_refl _⟩).1⟩, fun N P st z i hz hp hs hu hP => (main N P st z i hz hp hs hu hP).2⟩
omit hn hr b bq in
theorem begin_all (hn : NumOk nums) (hr : RecOk recs) : ∀ d, BOk nums recs d (beginM nums recs d) ∧ BQ nums recs d (beginM nums recs d)
  | 0 => by
    have no : ∀ st z, z ∈ akeys recs → z ∉ akeys st.place → unpl recs st ≤ 0 → False := fun st z h1 h2 h3 => by
      have := unpl_pos h1 h2
      omega
    exact ⟨⟨fun st z _ h1 h2 _ h3 => (no st z h1 h2 h3).elim⟩, fun _ P st z _ h1 h2 _ h3 _ => (no st z h1 h2 h3).elim⟩
  | d + 1 => by
    obtain ⟨h1, h2⟩ := begin_all hn hr d
    exact begin_ok hn hr h1 h2
end
end Aw

namespace Aw
open PySem L2
/-! ### an ask: where it stands -/
structure QA where
  p : Addr
  dx : Addr
  n : Addr
  r : Addr
  k : Addr
  e : Addr
  rn : Addr
  pl : Addr
  lo : Addr
  se : Addr
def askF (Q : QA) : List (Str × V) := [("numbers", .ref Q.n), ("recipes", .ref Q.r), ("kept", .ref Q.k), ("ended", .ref Q.e), ("ran", .ref Q.rn), ("place", .ref Q.pl), ("lowest", .ref Q.lo), ("settled", .ref Q.se)]
theorem putF_app {k : Str} {v : V} : ∀ {fs : List (Str × V)}, (∀ q ∈ fs, ¬ q.1 = k) → putF k v fs = fs ++ [(k, v)]
  | [], _ => rfl
  | (a, w) :: r, h => by
    have h1 : ¬ a = k := h (a, w) List.mem_cons_self
    rw [putF_neg h1, putF_app fun q hq => h q (List.mem_cons_of_mem _ hq)]
    rfl
theorem q_r_n : ¬ (("recipes" : Str) = "numbers") := by decide +kernel
theorem q_k_n : ¬ (("kept" : Str) = "numbers") := by decide +kernel
theorem q_e_n : ¬ (("ended" : Str) = "numbers") := by decide +kernel
theorem q_rn_n : ¬ (("ran" : Str) = "numbers") := by decide +kernel
theorem q_pl_n : ¬ (("place" : Str) = "numbers") := by decide +kernel
theorem q_lo_n : ¬ (("lowest" : Str) = "numbers") := by decide +kernel
theorem q_se_n : ¬ (("settled" : Str) = "numbers") := by decide +kernel
theorem q_k_r : ¬ (("kept" : Str) = "recipes") := by decide +kernel
theorem q_e_r : ¬ (("ended" : Str) = "recipes") := by decide +kernel
theorem q_rn_r : ¬ (("ran" : Str) = "recipes") := by decide +kernel
theorem q_pl_r : ¬ (("place" : Str) = "recipes") := by decide +kernel
theorem q_lo_r : ¬ (("lowest" : Str) = "recipes") := by decide +kernel
theorem q_se_r : ¬ (("settled" : Str) = "recipes") := by decide +kernel
theorem q_e_k : ¬ (("ended" : Str) = "kept") := by decide +kernel
theorem q_rn_k : ¬ (("ran" : Str) = "kept") := by decide +kernel
theorem q_pl_k : ¬ (("place" : Str) = "kept") := by decide +kernel
theorem q_lo_k : ¬ (("lowest" : Str) = "kept") := by decide +kernel
theorem q_se_k : ¬ (("settled" : Str) = "kept") := by decide +kernel
theorem q_rn_e : ¬ (("ran" : Str) = "ended") := by decide +kernel
theorem q_pl_e : ¬ (("place" : Str) = "ended") := by decide +kernel
theorem q_lo_e : ¬ (("lowest" : Str) = "ended") := by decide +kernel
theorem q_se_e : ¬ (("settled" : Str) = "ended") := by decide +kernel
theorem q_pl_rn : ¬ (("place" : Str) = "ran") := by decide +kernel
theorem q_lo_rn : ¬ (("lowest" : Str) = "ran") := by decide +kernel
theorem q_se_rn : ¬ (("settled" : Str) = "ran") := by decide +kernel
theorem q_lo_pl : ¬ (("lowest" : Str) = "place") := by decide +kernel
theorem q_se_pl : ¬ (("settled" : Str) = "place") := by decide +kernel
theorem q_se_lo : ¬ (("settled" : Str) = "lowest") := by decide +kernel
theorem askF_n (Q : QA) : (askF Q).lookup ("numbers" : Str) = some (.ref Q.n) := lku_pos
theorem askF_r (Q : QA) : (askF Q).lookup ("recipes" : Str) = some (.ref Q.r) := (lku_neg q_r_n).trans (lku_pos)
theorem askF_k (Q : QA) : (askF Q).lookup ("kept" : Str) = some (.ref Q.k) := (lku_neg q_k_n).trans ((lku_neg q_k_r).trans (lku_pos))
theorem askF_e (Q : QA) : (askF Q).lookup ("ended" : Str) = some (.ref Q.e) := (lku_neg q_e_n).trans ((lku_neg q_e_r).trans ((lku_neg q_e_k).trans (lku_pos)))
theorem askF_rn (Q : QA) : (askF Q).lookup ("ran" : Str) = some (.ref Q.rn) := (lku_neg q_rn_n).trans ((lku_neg q_rn_r).trans ((lku_neg q_rn_k).trans ((lku_neg q_rn_e).trans (lku_pos))))
theorem askF_pl (Q : QA) : (askF Q).lookup ("place" : Str) = some (.ref Q.pl) := (lku_neg q_pl_n).trans ((lku_neg q_pl_r).trans ((lku_neg q_pl_k).trans ((lku_neg q_pl_e).trans ((lku_neg q_pl_rn).trans (lku_pos)))))
theorem askF_lo (Q : QA) : (askF Q).lookup ("lowest" : Str) = some (.ref Q.lo) := (lku_neg q_lo_n).trans ((lku_neg q_lo_r).trans ((lku_neg q_lo_k).trans ((lku_neg q_lo_e).trans ((lku_neg q_lo_rn).trans ((lku_neg q_lo_pl).trans (lku_pos))))))
theorem askF_se (Q : QA) : (askF Q).lookup ("settled" : Str) = some (.ref Q.se) := (lku_neg q_se_n).trans ((lku_neg q_se_r).trans ((lku_neg q_se_k).trans ((lku_neg q_se_e).trans ((lku_neg q_se_rn).trans ((lku_neg q_se_pl).trans ((lku_neg q_se_lo).trans (lku_pos)))))))
theorem askF_no (Q : QA) {m : Str} (h0 : ¬ m = "numbers") (h1 : ¬ m = "recipes") (h2 : ¬ m = "kept") (h3 : ¬ m = "ended") (h4 : ¬ m = "ran") (h5 : ¬ m = "place") (h6 : ¬ m = "lowest") (h7 : ¬ m = "settled") : (askF Q).lookup m = none := by
  unfold askF
  rw [lku_neg h0, lku_neg h1, lku_neg h2, lku_neg h3, lku_neg h4, lku_neg h5, lku_neg h6, lku_neg h7]
  rfl
/-- w: what may be written; l: the locals of those who called, that are left as they are; x: what others hold -/
structure Wl where
  w : Addr → Prop
  l : Addr → Prop
  x : Addr → Prop
/-- nothing of what is kept lies there -/
def Wl.ex (W : Wl) : Addr → Prop := fun b => W.w b ∨ W.x b
instance : Coe Wl (Addr → Prop) := ⟨Wl.ex⟩
instance : CoeFun Wl (fun _ => Addr → Prop) := ⟨Wl.ex⟩
/-- a step: what may be written grows by what was not there; all else stays -/
structure Stp (W W' : Wl) (H H' : Hp) : Prop where
  fr : Fr W.w H H'
  nw : Nw W.w W'.w H
  sub : ∀ b, W.w b → W'.w b
  lo : W'.l = W.l
  loc : ∀ b, W.l b → H' b = H b
  xx : W'.x = W.x
theorem Stp.refl (W : Wl) (H : Hp) : Stp W W H H := ⟨.refl _ _, fun _ w => .inl w, fun _ w => w, rfl, fun _ _ => rfl, rfl⟩
theorem Stp.trans {W W1 W2 : Wl} {H H1 H2 : Hp} (a : Stp W W1 H H1) (b : Stp W1 W2 H1 H2) : Stp W W2 H H2 := by
  refine ⟨fun c o q n k => b.fr c o (a.fr c o q n k) n fun w1 => (a.nw c w1).elim k fun z => (by obtain ⟨ps, e⟩ := z _ q; exact absurd e (n ps)), fun c w2 => ?_, fun c w => b.sub c (a.sub c w), b.lo.trans a.lo, fun c w => (b.loc c (by rw [a.lo]; exact w)).trans (a.loc c w), b.xx.trans a.xx⟩
  rcases b.nw c w2 with h | h
  · exact a.nw c h
  · by_cases wc : W.w c
    · exact .inl wc
    · refine .inr fun o e => Classical.byContradiction fun nt => ?_
      exact nt (h o (a.fr c o e (fun ps z => nt ⟨ps, z⟩) fun w => absurd w wc))
/-- all that is there stays, locals are there -/
theorem Stp.same {W : Wl} {H H' : Hp} (s : Same H H') (al : ∀ b, W.l b → ∃ o, H b = some o) : Stp W W H H' := ⟨.of_same s, fun _ w => .inl w, fun _ w => w, rfl, fun b w => by
  obtain ⟨o, e⟩ := al b w
  rw [e]; exact s _ _ e, rfl⟩
theorem Stp.upd {W : Wl} {H : Hp} {b : Addr} {u : HO} (w : W.w b) (nl : ¬ W.l b) (n : ∀ xs, H b ≠ some (.tup xs)) : Stp W W H (upd H b u) := ⟨.upd w n, fun _ w => .inl w, fun _ w => w, rfl, fun c wc => upd_ne fun z => nl (by rw [← z]; exact wc), rfl⟩
/-- what stands outside stays outside -/
theorem Stp.keep {W W' : Wl} {H H' : Hp} (a : Stp W W' H H') {b : Addr} {o : HO} (e : H b = some o) (n : ¬ W.w b) (nt : ∀ ps, o ≠ .tbl ps := by intro _ z; cases z) : H' b = some o ∧ ¬ W'.w b := ⟨a.fr.no e n nt, a.nw.no n e nt⟩
theorem Stp.tups {W W' : Wl} {H H' : Hp} (a : Stp W W' H H') : Tups H H' := a.fr.tups
theorem Stp.nwx {W W' : Wl} {H H' : Hp} (s : Stp W W' H H') : Nw W.ex W'.ex H := fun b w => w.elim (fun w => (s.nw b w).imp .inl id) fun w => .inl (.inr (by rw [← s.xx]; exact w))
theorem Stp.frx {W W' : Wl} {H H' : Hp} (s : Stp W W' H H') : Fr W'.ex H H' := s.fr.wide fun b w => .inl (s.sub b w)
theorem RunAt.stp {C : HC} {W W' : Wl} {H H' : Hp} {v : V} {r : Rn} (h : RunAt C W H v r) (s : Stp W W' H H') : RunAt C W' H' v r := (h.nw s.nwx).fr s.frx
theorem RunsAt.stp {C : HC} {W W' : Wl} {H H' : Hp} {v : V} {r : List Rn} (h : RunsAt C W H v r) (s : Stp W W' H H') : RunsAt C W' H' v r := (h.nw s.nwx).fr s.frx
theorem KnotAt.stp {C : HC} {W W' : Wl} {H H' : Hp} {v : V} {k : Kt} (h : KnotAt C W H v k) (s : Stp W W' H H') : KnotAt C W' H' v k := (h.nw s.nwx).fr s.frx
/-- the lists of runs of an ask: av where each lies -/
structure RansAt (C : HC) (W : Wl) (H : Hp) (Q : QA) (ran : AL (List Rn)) (av : Str → Addr) : Prop where
  d : H Q.rn = some (.dK (ran.map fun p => ((Sum.inr p.1 : Key), V.ref (av p.1))))
  l : ∀ p ∈ ran, ∃ vs, H (av p.1) = some (.lst vs) ∧ LR (RunAt C W H) vs p.2
  w : ∀ s ∈ akeys ran, W.w (av s) ∧ av s ≠ Q.e
  wl : ∀ s ∈ akeys ran, ¬ W.l (av s)
  inj : ∀ s ∈ akeys ran, ∀ z ∈ akeys ran, av s = av z → s = z
def TrueV (v : V) (_ : Unit) : Prop := v = .bl true
/-- what may be written is a list or a dict -/
def Wr (H : Hp) (b : Addr) : Prop := (∃ vs, H b = some (.lst vs)) ∨ ∃ kvs, H b = some (.dK kvs)
theorem Wr.some {H : Hp} {b : Addr} (h : Wr H b) : ∃ o, H b = some o := h.elim (fun ⟨_, e⟩ => ⟨_, e⟩) fun ⟨_, e⟩ => ⟨_, e⟩
theorem Wr.of {H H' : Hp} {b : Addr} (h : Wr H b) (e : H' b = H b) : Wr H' b := by unfold Wr at h ⊢; rw [e]; exact h
theorem Wr.same {H H' : Hp} {b : Addr} (h : Wr H b) (s : Same H H') : Wr H' b := h.imp (fun ⟨_, e⟩ => ⟨_, s _ _ e⟩) fun ⟨_, e⟩ => ⟨_, s _ _ e⟩
theorem tabs_to {T : List NdefX.NTab} {H H' : Hp} (t : NdefX.TabsN T H) (h : ∀ b o, H b = some o → ((∃ ps, o = .tbl ps) ∨ ∃ c q, o = LamX.CodeO c q) → H' b = some o) : NdefX.TabsN T H' := fun p hp => by
  obtain ⟨ps, h1, h2, h3⟩ := t p hp
  refine ⟨ps, h _ _ h1 (.inl ⟨_, rfl⟩), h2, fun pos cv hc => ?_⟩
  obtain ⟨c, e1, e2⟩ := h3 pos cv hc
  exact ⟨c, e1, h _ _ e2 (.inr ⟨_, _, rfl⟩)⟩
theorem tabs_same {T : List NdefX.NTab} {H H' : Hp} (t : NdefX.TabsN T H) (s : Same H H') : NdefX.TabsN T H' := tabs_to t fun b o e _ => s b o e
theorem tabs_upd {T : List NdefX.NTab} {H : Hp} {b : Addr} (t : NdefX.TabsN T H) (w : Wr H b) (u : HO) : NdefX.TabsN T (upd H b u) := tabs_to t fun c o e k => by
  rw [upd_ne]; exact e
  intro z
  rw [z] at e
  rcases w with ⟨vs, w⟩ | ⟨vs, w⟩ <;> rw [w] at e <;> rcases k with ⟨ps, k⟩ | ⟨x, q, k⟩ <;> subst k
  · cases e
  · unfold LamX.CodeO at e; cases e
  · cases e
  · unfold LamX.CodeO at e; cases e
structure AskAt (C : HC) (CA : Addr) (W : Wl) (H : Hp) (Q : QA) (nums : AL Int) (recs : AL T) (st : Ak) : Prop where
  ob : H Q.p = some (.ins CA Q.dx (askF Q))
  n : ∃ kvs, H Q.n = some (.dK kvs) ∧ DR IntV kvs nums
  r : ∃ kvs, H Q.r = some (.dK kvs) ∧ DR (TA H) kvs recs
  k : ∃ kvs, H Q.k = some (.dK kvs) ∧ DR (KnotAt C W H) kvs st.kept
  e : ∃ vs, H Q.e = some (.lst vs) ∧ LR (RunAt C W H) vs st.ended
  rn : ∃ av, RansAt C W H Q st.ran av
  pl : ∃ kvs, H Q.pl = some (.dK kvs) ∧ DR IntV kvs st.place
  lo : ∃ kvs, H Q.lo = some (.dK kvs) ∧ DR IntV kvs st.low
  se : ∃ kvs, H Q.se = some (.dK kvs) ∧ DR TrueV kvs st.set
  np : ¬ W.w Q.p
  nn : ¬ W.w Q.n
  nr : ¬ W.w Q.r
  wk : W.w Q.k
  we : W.w Q.e
  wrn : W.w Q.rn
  wpl : W.w Q.pl
  wlo : W.w Q.lo
  wse : W.w Q.se
  nd : [Q.k, Q.rn, Q.pl, Q.lo, Q.se].Nodup
  kd : ∀ b, W.w b → Wr H b
  lw : ∀ b, W.l b → W.w b
  lk : ¬ W.l Q.k
  le : ¬ W.l Q.e
  lrn : ¬ W.l Q.rn
  lpl : ¬ W.l Q.pl
  llo : ¬ W.l Q.lo
  lse : ¬ W.l Q.se
  tb : NdefX.TabsN C.t H
  xd : ∀ b, W.x b → ¬ W.w b ∧ ∃ o, H b = some o ∧ ∀ ps, o ≠ .tbl ps
section
variable {C : HC} {CA : Addr} {W W' : Wl} {H H' : Hp} {Q : QA} {nums : AL Int} {recs : AL T} {st : Ak}
theorem AskAt.al (a : AskAt C CA W H Q nums recs st) : ∀ b, W.w b → ∃ o, H b = some o := fun b w => (a.kd b w).some
theorem AskAt.alx (a : AskAt C CA W H Q nums recs st) : ∀ b, W b → ∃ o, H b = some o := fun b w => w.elim (a.al b) fun w => (a.xd b w).2.imp fun _ q => q.1
theorem Stp.xd (s : Stp W W' H H') (x : ∀ b, W.x b → ¬ W.w b ∧ ∃ o, H b = some o ∧ ∀ ps, o ≠ .tbl ps) : ∀ b, W'.x b → ¬ W'.w b ∧ ∃ o, H' b = some o ∧ ∀ ps, o ≠ .tbl ps := fun b w => by
  rw [s.xx] at w
  obtain ⟨h1, o, h2, h3⟩ := x b w
  exact ⟨s.nw.no h1 h2 h3, o, s.fr.no h2 h1 h3, h3⟩
/-- all that it writes is as it was -/
theorem AskAt.stp (a : AskAt C CA W H Q nums recs st) (s : Stp W W' H H') (k : H' Q.k = H Q.k) (e : H' Q.e = H Q.e) (rn : H' Q.rn = H Q.rn) (pl : H' Q.pl = H Q.pl) (lo : H' Q.lo = H Q.lo) (se : H' Q.se = H Q.se)
    (ls : ∀ b vs, W.w b → H b = some (.lst vs) → H' b = some (.lst vs)) (al : ∀ b, W'.w b → Wr H' b) (tb : NdefX.TabsN C.t H') : AskAt C CA W' H' Q nums recs st := by
  obtain ⟨kn, en, dn⟩ := a.n
  obtain ⟨kr, er, dr⟩ := a.r
  obtain ⟨kk, ek, dk⟩ := a.k
  obtain ⟨ve, ee, le⟩ := a.e
  obtain ⟨av, ra⟩ := a.rn
  obtain ⟨kp, ep, dp⟩ := a.pl
  obtain ⟨kl, el, dl⟩ := a.lo
  obtain ⟨ks, es, ds⟩ := a.se
  refine ⟨(s.keep a.ob a.np).1, ⟨kn, (s.keep en a.nn).1, dn⟩, ⟨kr, (s.keep er a.nr).1, dr.imp fun _ _ _ z => z.mono s.tups⟩, ⟨kk, k.trans ek, dk.imp fun _ _ _ z => z.stp s⟩, ⟨ve, e.trans ee, le.imp fun _ _ _ z => z.stp s⟩,
    ⟨av, rn.trans ra.d, fun p hp => ?_, fun z hz => ⟨s.sub _ (ra.w z hz).1, (ra.w z hz).2⟩, fun z hz => by rw [s.lo]; exact ra.wl z hz, ra.inj⟩, ⟨kp, pl.trans ep, dp⟩, ⟨kl, lo.trans el, dl⟩, ⟨ks, se.trans es, ds⟩, (s.keep a.ob a.np).2, (s.keep en a.nn).2, (s.keep er a.nr).2, s.sub _ a.wk, s.sub _ a.we, s.sub _ a.wrn, s.sub _ a.wpl, s.sub _ a.wlo, s.sub _ a.wse, a.nd, al, fun b w => s.sub b (a.lw b (by rw [← s.lo]; exact w)), by rw [s.lo]; exact a.lk, by rw [s.lo]; exact a.le, by rw [s.lo]; exact a.lrn, by rw [s.lo]; exact a.lpl, by rw [s.lo]; exact a.llo, by rw [s.lo]; exact a.lse, tb, s.xd a.xd⟩
  obtain ⟨vs, ev, lv⟩ := ra.l p hp
  exact ⟨vs, ls _ _ (ra.w p.1 (List.mem_map_of_mem hp)).1 ev, lv.imp fun _ _ _ z => z.stp s⟩
theorem AskAt.same (a : AskAt C CA W H Q nums recs st) (s : Same H H') : AskAt C CA W H' Q nums recs st := by
  obtain ⟨kk, ek, dk⟩ := a.k
  obtain ⟨ve, ee, le⟩ := a.e
  obtain ⟨av, ra⟩ := a.rn
  obtain ⟨kp, ep, dp⟩ := a.pl
  obtain ⟨kl, el, dl⟩ := a.lo
  obtain ⟨ks, es, ds⟩ := a.se
  exact a.stp (.same s fun b w => a.al b (a.lw b w)) (by rw [ek]; exact s _ _ ek) (by rw [ee]; exact s _ _ ee) (by rw [ra.d]; exact s _ _ ra.d) (by rw [ep]; exact s _ _ ep) (by rw [el]; exact s _ _ el) (by rw [es]; exact s _ _ es) (fun b vs _ e => s _ _ e) (fun b w => (a.kd b w).same s) (tabs_same a.tb s)
theorem AskAt.dif (a : AskAt C CA W H Q nums recs st) : Q.k ≠ Q.rn ∧ Q.k ≠ Q.pl ∧ Q.k ≠ Q.lo ∧ Q.k ≠ Q.se ∧ Q.rn ≠ Q.pl ∧ Q.rn ≠ Q.lo ∧ Q.rn ≠ Q.se ∧ Q.pl ≠ Q.lo ∧ Q.pl ≠ Q.se ∧ Q.lo ≠ Q.se := by
  have h := a.nd
  simp only [List.nodup_cons, List.mem_cons, List.not_mem_nil, or_false, not_or, List.nodup_nil, and_true] at h
  obtain ⟨⟨h1, h2, h3, h4⟩, ⟨h5, h6, h7⟩, ⟨h8, h9⟩, h10⟩ := h
  exact ⟨h1, h2, h3, h4, h5, h6, h7, h8, h9, h10.1⟩
theorem AskAt.set_k (a : AskAt C CA W H Q nums recs st) {kvs : List (Key × V)} {m : AL Kt} (d : DR (KnotAt C W (upd H Q.k (.dK kvs))) kvs m) : AskAt C CA W (upd H Q.k (.dK kvs)) Q nums recs { st with kept := m } ∧ Stp W W H (upd H Q.k (.dK kvs)) := by
  obtain ⟨d0, d1, d2, d3, d4, d5, d6, d7, d8, d9⟩ := a.dif
  obtain ⟨kn, en, dn⟩ := a.n
  obtain ⟨kr, er, dr⟩ := a.r
  obtain ⟨kk, ek, dk⟩ := a.k
  obtain ⟨ve, ee, le⟩ := a.e
  obtain ⟨av, ra⟩ := a.rn
  obtain ⟨kp, ep, dp⟩ := a.pl
  obtain ⟨kl, el, dl⟩ := a.lo
  obtain ⟨ks, es, ds⟩ := a.se
  have s : Stp W W H (upd H Q.k (.dK kvs)) := .upd a.wk a.lk fun xs e => by rw [ek] at e; cases e
  refine ⟨⟨(s.keep a.ob a.np).1, ⟨kn, (s.keep en a.nn).1, dn⟩, ⟨kr, (s.keep er a.nr).1, dr.imp fun _ _ _ z => z.mono s.tups⟩, ⟨kvs, upd_same, d⟩, ⟨ve, by rw [upd_ne (ne_of ee ek (by intro z; cases z))]; exact ee, le.imp fun _ _ _ z => z.stp s⟩,
    ⟨av, by rw [upd_ne d0.symm]; exact ra.d, fun p hp => ?_, ra.w, ra.wl, ra.inj⟩, ⟨kp, by rw [upd_ne d1.symm]; exact ep, dp⟩, ⟨kl, by rw [upd_ne d2.symm]; exact el, dl⟩, ⟨ks, by rw [upd_ne d3.symm]; exact es, ds⟩, a.np, a.nn, a.nr, a.wk, a.we, a.wrn, a.wpl, a.wlo, a.wse, a.nd, fun b w => (by
      by_cases c : b = Q.k
      · rw [c]; exact .inr ⟨_, upd_same⟩
      · exact (a.kd b w).of (upd_ne c)), a.lw, a.lk, a.le, a.lrn, a.lpl, a.llo, a.lse, tabs_upd a.tb (a.kd _ a.wk) _, s.xd a.xd⟩, s⟩
  obtain ⟨vs, ev, lv⟩ := ra.l p hp
  exact ⟨vs, by rw [upd_ne (ne_of ev ek (by intro z; cases z))]; exact ev, lv.imp fun _ _ _ z => z.stp s⟩
theorem AskAt.set_pl (a : AskAt C CA W H Q nums recs st) {kvs : List (Key × V)} {m : AL Int} (d : DR (IntV) kvs m) : AskAt C CA W (upd H Q.pl (.dK kvs)) Q nums recs { st with place := m } ∧ Stp W W H (upd H Q.pl (.dK kvs)) := by
  obtain ⟨d0, d1, d2, d3, d4, d5, d6, d7, d8, d9⟩ := a.dif
  obtain ⟨kn, en, dn⟩ := a.n
  obtain ⟨kr, er, dr⟩ := a.r
  obtain ⟨kk, ek, dk⟩ := a.k
  obtain ⟨ve, ee, le⟩ := a.e
  obtain ⟨av, ra⟩ := a.rn
  obtain ⟨kp, ep, dp⟩ := a.pl
  obtain ⟨kl, el, dl⟩ := a.lo
  obtain ⟨ks, es, ds⟩ := a.se
  have s : Stp W W H (upd H Q.pl (.dK kvs)) := .upd a.wpl a.lpl fun xs e => by rw [ep] at e; cases e
  refine ⟨⟨(s.keep a.ob a.np).1, ⟨kn, (s.keep en a.nn).1, dn⟩, ⟨kr, (s.keep er a.nr).1, dr.imp fun _ _ _ z => z.mono s.tups⟩, ⟨kk, by rw [upd_ne d1]; exact ek, dk.imp fun _ _ _ z => z.stp s⟩, ⟨ve, by rw [upd_ne (ne_of ee ep (by intro z; cases z))]; exact ee, le.imp fun _ _ _ z => z.stp s⟩,
    ⟨av, by rw [upd_ne d4]; exact ra.d, fun p hp => ?_, ra.w, ra.wl, ra.inj⟩, ⟨kvs, upd_same, d⟩, ⟨kl, by rw [upd_ne d7.symm]; exact el, dl⟩, ⟨ks, by rw [upd_ne d8.symm]; exact es, ds⟩, a.np, a.nn, a.nr, a.wk, a.we, a.wrn, a.wpl, a.wlo, a.wse, a.nd, fun b w => (by
      by_cases c : b = Q.pl
      · rw [c]; exact .inr ⟨_, upd_same⟩
      · exact (a.kd b w).of (upd_ne c)), a.lw, a.lk, a.le, a.lrn, a.lpl, a.llo, a.lse, tabs_upd a.tb (a.kd _ a.wpl) _, s.xd a.xd⟩, s⟩
  obtain ⟨vs, ev, lv⟩ := ra.l p hp
  exact ⟨vs, by rw [upd_ne (ne_of ev ep (by intro z; cases z))]; exact ev, lv.imp fun _ _ _ z => z.stp s⟩
theorem AskAt.set_lo (a : AskAt C CA W H Q nums recs st) {kvs : List (Key × V)} {m : AL Int} (d : DR (IntV) kvs m) : AskAt C CA W (upd H Q.lo (.dK kvs)) Q nums recs { st with low := m } ∧ Stp W W H (upd H Q.lo (.dK kvs)) := by
  obtain ⟨d0, d1, d2, d3, d4, d5, d6, d7, d8, d9⟩ := a.dif
  obtain ⟨kn, en, dn⟩ := a.n
  obtain ⟨kr, er, dr⟩ := a.r
  obtain ⟨kk, ek, dk⟩ := a.k
  obtain ⟨ve, ee, le⟩ := a.e
  obtain ⟨av, ra⟩ := a.rn
  obtain ⟨kp, ep, dp⟩ := a.pl
  obtain ⟨kl, el, dl⟩ := a.lo
  obtain ⟨ks, es, ds⟩ := a.se
  have s : Stp W W H (upd H Q.lo (.dK kvs)) := .upd a.wlo a.llo fun xs e => by rw [el] at e; cases e
  refine ⟨⟨(s.keep a.ob a.np).1, ⟨kn, (s.keep en a.nn).1, dn⟩, ⟨kr, (s.keep er a.nr).1, dr.imp fun _ _ _ z => z.mono s.tups⟩, ⟨kk, by rw [upd_ne d2]; exact ek, dk.imp fun _ _ _ z => z.stp s⟩, ⟨ve, by rw [upd_ne (ne_of ee el (by intro z; cases z))]; exact ee, le.imp fun _ _ _ z => z.stp s⟩,
    ⟨av, by rw [upd_ne d5]; exact ra.d, fun p hp => ?_, ra.w, ra.wl, ra.inj⟩, ⟨kp, by rw [upd_ne d7]; exact ep, dp⟩, ⟨kvs, upd_same, d⟩, ⟨ks, by rw [upd_ne d9.symm]; exact es, ds⟩, a.np, a.nn, a.nr, a.wk, a.we, a.wrn, a.wpl, a.wlo, a.wse, a.nd, fun b w => (by
      by_cases c : b = Q.lo
      · rw [c]; exact .inr ⟨_, upd_same⟩
      · exact (a.kd b w).of (upd_ne c)), a.lw, a.lk, a.le, a.lrn, a.lpl, a.llo, a.lse, tabs_upd a.tb (a.kd _ a.wlo) _, s.xd a.xd⟩, s⟩
  obtain ⟨vs, ev, lv⟩ := ra.l p hp
  exact ⟨vs, by rw [upd_ne (ne_of ev el (by intro z; cases z))]; exact ev, lv.imp fun _ _ _ z => z.stp s⟩
theorem AskAt.set_se (a : AskAt C CA W H Q nums recs st) {kvs : List (Key × V)} {m : AL Unit} (d : DR (TrueV) kvs m) : AskAt C CA W (upd H Q.se (.dK kvs)) Q nums recs { st with set := m } ∧ Stp W W H (upd H Q.se (.dK kvs)) := by
  obtain ⟨d0, d1, d2, d3, d4, d5, d6, d7, d8, d9⟩ := a.dif
  obtain ⟨kn, en, dn⟩ := a.n
  obtain ⟨kr, er, dr⟩ := a.r
  obtain ⟨kk, ek, dk⟩ := a.k
  obtain ⟨ve, ee, le⟩ := a.e
  obtain ⟨av, ra⟩ := a.rn
  obtain ⟨kp, ep, dp⟩ := a.pl
  obtain ⟨kl, el, dl⟩ := a.lo
  obtain ⟨ks, es, ds⟩ := a.se
  have s : Stp W W H (upd H Q.se (.dK kvs)) := .upd a.wse a.lse fun xs e => by rw [es] at e; cases e
  refine ⟨⟨(s.keep a.ob a.np).1, ⟨kn, (s.keep en a.nn).1, dn⟩, ⟨kr, (s.keep er a.nr).1, dr.imp fun _ _ _ z => z.mono s.tups⟩, ⟨kk, by rw [upd_ne d3]; exact ek, dk.imp fun _ _ _ z => z.stp s⟩, ⟨ve, by rw [upd_ne (ne_of ee es (by intro z; cases z))]; exact ee, le.imp fun _ _ _ z => z.stp s⟩,
    ⟨av, by rw [upd_ne d6]; exact ra.d, fun p hp => ?_, ra.w, ra.wl, ra.inj⟩, ⟨kp, by rw [upd_ne d8]; exact ep, dp⟩, ⟨kl, by rw [upd_ne d9]; exact el, dl⟩, ⟨kvs, upd_same, d⟩, a.np, a.nn, a.nr, a.wk, a.we, a.wrn, a.wpl, a.wlo, a.wse, a.nd, fun b w => (by
      by_cases c : b = Q.se
      · rw [c]; exact .inr ⟨_, upd_same⟩
      · exact (a.kd b w).of (upd_ne c)), a.lw, a.lk, a.le, a.lrn, a.lpl, a.llo, a.lse, tabs_upd a.tb (a.kd _ a.wse) _, s.xd a.xd⟩, s⟩
  obtain ⟨vs, ev, lv⟩ := ra.l p hp
  exact ⟨vs, by rw [upd_ne (ne_of ev es (by intro z; cases z))]; exact ev, lv.imp fun _ _ _ z => z.stp s⟩
end
end Aw

namespace Aw
open PySem L2
/-! ### dicts of lists of names, filled -/
def putM (m : LM) (s : Str) (q : Addr × List Str) : LM :=
  if (m.any fun p => decide (p.1 = s)) = true then m.map (fun p => if p.1 = s then (p.1, q) else p) else m ++ [(s, q)]
theorem any_kvL (m : LM) (s : Str) : ((kvL m).any fun kv => decide (kv.1 = (Sum.inr s : Key))) = m.any fun p => decide (p.1 = s) := by
  unfold kvL
  rw [List.any_map]
  congr 1
  funext p
  show decide ((Sum.inr p.1 : Key) = Sum.inr s) = decide (p.1 = s)
  by_cases e : p.1 = s
  · rw [decide_eq_true e, decide_eq_true (by rw [e])]
  · rw [decide_eq_false e, decide_eq_false (fun z => e (Sum.inr.inj z))]
theorem kvL_put (m : LM) (s : Str) (q : Addr × List Str) : putK (kvL m) (Sum.inr s) (.ref q.1) = kvL (putM m s q) := by
  unfold putK putM
  rw [any_kvL]
  by_cases c : (m.any fun p => decide (p.1 = s)) = true
  · rw [if_pos c, if_pos c]
    unfold kvL
    rw [List.map_map, List.map_map]
    refine List.map_congr_left fun p _ => ?_
    show (if (Sum.inr p.1 : Key) = Sum.inr s then ((Sum.inr p.1 : Key), V.ref q.1) else (Sum.inr p.1, V.ref p.2.1)) = (Sum.inr (if p.1 = s then (p.1, q) else p).1, V.ref (if p.1 = s then (p.1, q) else p).2.1)
    by_cases e : p.1 = s
    · rw [if_pos e, if_pos (by rw [e])]
    · rw [if_neg e, if_neg (fun z => e (Sum.inr.inj z))]
  · rw [if_neg c, if_neg c]
    unfold kvL
    rw [List.map_append]
    rfl
def keysM (m : LM) : List Str := m.map (·.1)
theorem any_keys {m : LM} {s : Str} : (m.any fun p => decide (p.1 = s)) = true ↔ s ∈ keysM m := by
  rw [List.any_eq_true]
  unfold keysM
  rw [List.mem_map]
  exact ⟨fun ⟨p, h, e⟩ => ⟨p, h, of_decide_eq_true e⟩, fun ⟨p, h, e⟩ => ⟨p, h, decide_eq_true e⟩⟩
theorem keysM_put (m : LM) (s : Str) (q : Addr × List Str) : keysM (putM m s q) = if s ∈ keysM m then keysM m else keysM m ++ [s] := by
  unfold putM
  by_cases c : (m.any fun p => decide (p.1 = s)) = true
  · rw [if_pos c, if_pos (any_keys.mp c)]
    unfold keysM
    rw [List.map_map]
    refine List.map_congr_left fun p _ => ?_
    show (if p.1 = s then (p.1, q) else p).1 = p.1
    split <;> rfl
  · rw [if_neg c, if_neg (fun h => c (any_keys.mpr h))]
    unfold keysM
    rw [List.map_append]
    rfl
theorem nodup_put {m : LM} (h : (keysM m).Nodup) (s : Str) (q : Addr × List Str) : (keysM (putM m s q)).Nodup := by
  rw [keysM_put]
  split
  · exact h
  · next c =>
    rw [List.nodup_append]
    exact ⟨h, by simp, fun a ha b hb z => c (by rw [List.mem_singleton.mp hb] at z; rw [← z]; exact ha)⟩
theorem lkp_cons {p : Str × Addr × List Str} {r : LM} {s : Str} : lkp (p :: r) s = if p.1 = s then some p.2 else lkp r s := rfl
theorem lof_pos {p : Str × Addr × List Str} {r : LM} {s : Str} (e : p.1 = s) : lof (p :: r) s = p.2.2 := by unfold lof; rw [lkp_cons, if_pos e]
theorem lof_neg {p : Str × Addr × List Str} {r : LM} {s : Str} (e : ¬ p.1 = s) : lof (p :: r) s = lof r s := by unfold lof; rw [lkp_cons, if_neg e]
theorem lkp_none {m : LM} {s : Str} : lkp m s = none ↔ s ∉ keysM m := by
  induction m with
  | nil => exact ⟨fun _ h => (by cases h), fun _ => rfl⟩
  | cons p r ih =>
    unfold lkp
    show _ ↔ s ∉ p.1 :: keysM r
    by_cases e : p.1 = s
    · rw [if_pos e]
      exact ⟨fun h => (by cases h), fun h => absurd (show s ∈ p.1 :: keysM r by rw [e]; exact List.mem_cons_self) h⟩
    · rw [if_neg e, ih, List.mem_cons]
      exact ⟨fun h z => z.elim (fun q => e q.symm) h, fun h z => h (.inr z)⟩
theorem mem_lkp {m : LM} (nd : (keysM m).Nodup) {p : Str × Addr × List Str} (h : p ∈ m) : lkp m p.1 = some p.2 := by
  induction m with
  | nil => cases h
  | cons q r ih =>
    have nd' : (q.1 :: keysM r).Nodup := nd
    rw [List.nodup_cons] at nd'
    unfold lkp
    rcases List.mem_cons.mp h with e | e
    · rw [e, if_pos rfl]
    · rw [if_neg (fun z => nd'.1 (by rw [z]; exact List.mem_map_of_mem e))]
      exact ih nd'.2 e
theorem mem_put {m : LM} {s : Str} {q : Addr × List Str} {p : Str × Addr × List Str} (h : p ∈ putM m s q) : p ∈ m ∨ p = (s, q) := by
  unfold putM at h
  split at h
  · obtain ⟨r, hr, e⟩ := List.mem_map.mp h
    split at e
    · next c => rw [← e, c]; exact .inr rfl
    · rw [← e]; exact .inl hr
  · rcases List.mem_append.mp h with z | z
    · exact .inl z
    · exact .inr (List.mem_singleton.mp z)
theorem tot_put {m : LM} (nd : (keysM m).Nodup) (s x : Str) (p : Addr) : tot (putM m s (p, lof m s ++ [x])) = tot m + 1 := by
  unfold putM
  by_cases c : (m.any fun p => decide (p.1 = s)) = true
  · rw [if_pos c]
    have hs := any_keys.mp c
    clear c
    induction m with
    | nil => cases hs
    | cons q r ih =>
      have nd' : (q.1 :: keysM r).Nodup := nd
      rw [List.nodup_cons] at nd'
      by_cases e : q.1 = s
      · have hr : r.map (fun p_1 => if p_1.1 = s then (p_1.1, p, lof (q :: r) s ++ [x]) else p_1) = r := by
          refine (List.map_congr_left fun z hz => ?_).trans (List.map_id r)
          rw [if_neg (fun w => nd'.1 (by rw [e, ← w]; exact List.mem_map_of_mem hz))]
          rfl
        have el : lof (q :: r) s = q.2.2 := lof_pos e
        rw [List.map_cons, hr, if_pos e, el]
        unfold tot
        rw [List.map_cons, List.map_cons, List.sum_cons, List.sum_cons]
        show (q.2.2 ++ [x]).length + _ = _
        rw [List.length_append, List.length_singleton]
        omega
      · have el : lof (q :: r) s = lof r s := lof_neg e
        have ih' := ih nd'.2 ((List.mem_cons.mp hs).resolve_left fun z => e z.symm)
        rw [el, List.map_cons, if_neg e]
        unfold tot at ih' ⊢
        rw [List.map_cons, List.map_cons, List.sum_cons, List.sum_cons, ih']
        omega
  · rw [if_neg c]
    have el : lof m s = [] := by unfold lof; rw [lkp_none.mpr fun h => c (any_keys.mpr h)]
    rw [el]
    unfold tot
    rw [List.map_append, List.sum_append]
    rfl
/-- the other names' lists -/
theorem rest_of (m : LM) (s : Str) : ∃ r : List Str, (lof m s).length + r.length = tot m ∧ ∀ x ∈ uni m, x ∈ lof m s ∨ x ∈ r := by
  induction m with
  | nil => exact ⟨[], rfl, fun x h => by cases h⟩
  | cons p r ih =>
    by_cases e : p.1 = s
    · have el : lof (p :: r) s = p.2.2 := lof_pos e
      refine ⟨uni r, ?_, fun x h => ?_⟩
      · rw [el, uni_len]
        unfold tot
        rw [List.map_cons, List.sum_cons]
      · rw [el]
        unfold uni at h ⊢
        rw [List.map_cons, List.flatten_cons] at h
        exact List.mem_append.mp h
    · obtain ⟨t, h1, h2⟩ := ih
      have el : lof (p :: r) s = lof r s := lof_neg e
      refine ⟨p.2.2 ++ t, ?_, fun x h => ?_⟩
      · rw [el]
        unfold tot at h1 ⊢
        rw [List.map_cons, List.sum_cons, List.length_append]
        omega
      · rw [el]
        unfold uni at h
        rw [List.map_cons, List.flatten_cons] at h
        rcases List.mem_append.mp h with q | q
        · exact .inr (List.mem_append_left _ q)
        · exact (h2 x q).imp id fun z => List.mem_append_right _ z
/-! ### the law's own search: a list that grows while it is walked -/
structure Bfs (m : LM) (s : Str) (due : List Str) (k : Nat) : Prop where
  le : k ≤ due.length
  new : ∃ nw, due = lof m s ++ nw ∧ nw.Nodup ∧ ∀ x ∈ nw, x ∉ lof m s
  r : ∀ x ∈ due, Rch (lof m) s x
  cl : ∀ i x, i < k → due[i]? = some x → ∀ y ∈ lof m x, y ∈ due
theorem Bfs.start (m : LM) (s : Str) : Bfs m s (lof m s) 0 := ⟨Nat.zero_le _, ⟨[], (List.append_nil _).symm, .nil, fun x h => by cases h⟩, fun x h => .one h, fun i x h => by omega⟩
theorem Bfs.len {m : LM} {s : Str} {due : List Str} {k : Nat} (h : Bfs m s due k) : due.length ≤ tot m := by
  obtain ⟨nw, e, nd, hn⟩ := h.new
  obtain ⟨r, h1, h2⟩ := rest_of m s
  have : nw.length ≤ r.length := nodup_sub nd fun x hx => (h2 x ((h.r x (by rw [e]; exact List.mem_append_right _ hx)).uni)).resolve_left (hn x hx)
  rw [e, List.length_append]
  omega
/-- a part of the list of the name at k was walked -/
structure Bfs1 (m : LM) (s : Str) (due0 due : List Str) (k : Nat) (l : List Str) (i : Nat) : Prop where
  b : Bfs m s due k
  pre : ∃ z, due = due0 ++ z
  got : ∀ y ∈ l.take i, y ∈ due
theorem Bfs1.start {m : LM} {s : Str} {due : List Str} {k : Nat} (h : Bfs m s due k) (l : List Str) : Bfs1 m s due due k l 0 := ⟨h, ⟨[], (List.append_nil _).symm⟩, fun y hy => by cases hy⟩
theorem Bfs1.step {m : LM} {s n : Str} {due0 due : List Str} {k i : Nat} {y : Str} (h : Bfs1 m s due0 due k (lof m n) i) (hn : due0[k]? = some n) (hy : (lof m n)[i]? = some y) : Bfs1 m s due0 (addN due y) k (lof m n) (i + 1) := by
  obtain ⟨z, ez⟩ := h.pre
  have hkn : due[k]? = some n := by
    rw [ez, List.getElem?_append_left (List.getElem?_eq_some_iff.mp hn).1]
    exact hn
  have rn : Rch (lof m) s n := h.b.r n (List.mem_of_getElem? hkn)
  have ry : Rch (lof m) s y := .more rn (List.mem_of_getElem? hy)
  have sub : ∀ x ∈ due, x ∈ addN due y := fun x hx => mem_addN.mpr (.inl hx)
  have pre : ∃ t, addN due y = due ++ t := by
    unfold addN
    split
    · exact ⟨[], (List.append_nil _).symm⟩
    · exact ⟨[y], rfl⟩
  obtain ⟨t, et⟩ := pre
  refine ⟨⟨?_, ?_, fun x hx => ?_, fun j x hj hx w hw => ?_⟩, ⟨z ++ t, by rw [et, ez, List.append_assoc]⟩, fun w hw => ?_⟩
  · rw [et, List.length_append]; exact Nat.le_trans h.b.le (Nat.le_add_right _ _)
  · obtain ⟨nw, e, nd, hno⟩ := h.b.new
    unfold addN
    split
    · exact ⟨nw, e, nd, hno⟩
    · next c =>
      refine ⟨nw ++ [y], by rw [e, List.append_assoc], ?_, fun x hx => ?_⟩
      · rw [List.nodup_append]
        exact ⟨nd, by simp, fun a ha b hb w => c (by rw [e, ← List.mem_singleton.mp hb, ← w]; exact List.mem_append_right _ ha)⟩
      · rcases List.mem_append.mp hx with q | q
        · exact hno x q
        · rw [List.mem_singleton.mp q]
          exact fun w => c (by rw [e]; exact List.mem_append_left _ w)
  · rcases mem_addN.mp hx with q | q
    · exact h.b.r x q
    · rw [q]; exact ry
  · rw [et, List.getElem?_append_left (by have := h.b.le; omega)] at hx
    exact sub w (h.b.cl j x hj hx w hw)
  · rw [take_more hy] at hw
    rcases List.mem_append.mp hw with q | q
    · exact sub w (h.got w q)
    · exact mem_addN.mpr (.inr (List.mem_singleton.mp q))
theorem Bfs1.done {m : LM} {s n : Str} {due0 due : List Str} {k i : Nat} (h : Bfs1 m s due0 due k (lof m n) i) (hn : due0[k]? = some n) (hi : (lof m n).length ≤ i) : Bfs m s due (k + 1) := by
  obtain ⟨z, ez⟩ := h.pre
  have hlt := (List.getElem?_eq_some_iff.mp hn).1
  have hkn : due[k]? = some n := by
    rw [ez, List.getElem?_append_left hlt]
    exact hn
  refine ⟨by rw [ez, List.length_append]; omega, h.b.new, h.b.r, fun j x hj hx => ?_⟩
  by_cases c : j = k
  · subst c
    rw [hkn] at hx
    cases hx
    intro y hy
    exact h.got y (by rw [List.take_of_length_le hi]; exact hy)
  · exact h.b.cl j x (by omega) hx
theorem Bfs.done {m : LM} {s : Str} {due : List Str} {k : Nat} (h : Bfs m s due k) (e : ¬ k < due.length) (x : Str) : x ∈ due ↔ Rch (lof m) s x := by
  refine ⟨h.r x, fun r => r.closed (S := fun x => x ∈ due) (fun y hy => ?_) fun y hy z hz => ?_⟩
  · obtain ⟨nw, e, _⟩ := h.new
    rw [e]; exact List.mem_append_left _ hy
  · obtain ⟨i, hi, e2⟩ := List.mem_iff_getElem.mp hy
    exact h.cl i y (by have := h.le; omega) (by rw [List.getElem?_eq_getElem hi, e2]) z hz
theorem putM_new {m : LM} {s : Str} (h : s ∉ keysM m) (q : Addr × List Str) : putM m s q = m ++ [(s, q)] := by
  unfold putM
  rw [if_neg (fun c => h (any_keys.mp c))]
theorem not_tk {m : LM} (nd : (keysM m).Nodup) {i : Nat} {p : Str × Addr × List Str} (hi : m[i]? = some p) : p.1 ∉ keysM (m.take i) := fun h => by
  have e1 : keysM (m.take i) = (keysM m).take i := List.map_take
  rw [e1] at h
  have hi' : (keysM m)[i]? = some p.1 := by unfold keysM; rw [List.getElem?_map, hi]; rfl
  obtain ⟨j, hj, e⟩ := List.mem_take_iff_getElem.mp h
  have hlt := (List.getElem?_eq_some_iff.mp hi').1
  have e2 := (List.getElem?_eq_some_iff.mp hi').2
  have := (List.getElem_inj (h₀ := by omega) (h₁ := hlt) nd).mp (e.trans e2.symm)
  omega
/-! ### a dict of lists and its copy are equal -/
theorem eq_strs {K : PySem.W.Frag} {H : Hp} : ∀ l : List Str, Paired (EqV K H 1) (l.map V.str) (l.map V.str)
  | [] => .nil
  | s :: r => .cons (.inl ⟨rfl, rfl⟩) (eq_strs r)
/-- the same names with the same lists, elsewhere -/
def SameM (m m' : LM) : Prop := m.map (fun p => (p.1, p.2.2)) = m'.map (fun p => (p.1, p.2.2))
theorem SameM.lof {m m' : LM} (h : SameM m m') (s : Str) : lof m s = lof m' s := by
  unfold SameM at h
  induction m generalizing m' with
  | nil =>
    cases m' with
    | nil => rfl
    | cons => simp at h
  | cons p r ih =>
    cases m' with
    | nil => simp at h
    | cons p' r' =>
      rw [List.map_cons, List.map_cons, List.cons.injEq] at h
      have e1 : p.1 = p'.1 := (Prod.mk.inj h.1).1
      have e2 : p.2.2 = p'.2.2 := (Prod.mk.inj h.1).2
      have i2 := ih h.2
      by_cases c : p'.1 = s
      · rw [lof_pos (e1.trans c), lof_pos c, e2]
      · rw [lof_neg (fun z => c (e1.symm.trans z)), lof_neg c, i2]
theorem SameM.tot {m m' : LM} (h : SameM m m') : tot m = tot m' := by
  have : (m.map (fun p => (p.1, p.2.2))).map (fun q => q.2.length) = (m'.map (fun p => (p.1, p.2.2))).map (fun q => q.2.length) := by rw [h]
  rw [List.map_map, List.map_map] at this
  unfold Aw.tot
  exact congrArg List.sum this
theorem SameM.len {m m' : LM} (h : SameM m m') : m.length = m'.length := by
  have := congrArg List.length h
  simpa using this
theorem SameM.keys {m m' : LM} (h : SameM m m') : keysM m = keysM m' := by
  have : (m.map (fun p => (p.1, p.2.2))).map (·.1) = (m'.map (fun p => (p.1, p.2.2))).map (·.1) := by rw [h]
  rw [List.map_map, List.map_map] at this
  exact this
theorem eq_dicts {K : PySem.W.Frag} {H : Hp} {D D' : Addr} {m m' : LM} (h : LAt H D m) (h' : LAt H D' m') (e : SameM m m') (nd : (keysM m).Nodup) : EqR K H (EqV K H 2) (.ref D) (.ref D') := by
  refine .inr ⟨D, D', kvL m, kvL m', rfl, rfl, h.d, h'.d, by unfold kvL; rw [List.length_map, List.length_map, e.len], fun p hp => ?_⟩
  obtain ⟨q, hq, eq⟩ := List.mem_map.mp hp
  subst eq
  have l1 := mem_lkp nd hq
  have nn : lkp m' q.1 ≠ none := fun z => (lkp_none.mp z) (by rw [← e.keys]; exact List.mem_map_of_mem hq)
  obtain ⟨q', hq'⟩ := Option.ne_none_iff_exists'.mp nn
  have l2 := lkp_mem hq'
  have ll : q.2.2 = q'.2 := by
    have := e.lof q.1
    unfold lof at this
    rw [l1, hq'] at this
    exact this
  refine ⟨.ref q'.1, by show valV (kvL m') (Sum.inr q.1) = _; rw [kvL_val, hq']; rfl, ?_⟩
  refine .inr (.inr (.inl ⟨q.2.1, q'.1, _, _, rfl, rfl, SqL.of (h.l _ hq), SqL.of (h'.l _ l2), ?_⟩))
  rw [ll]
  exact eq_strs _
end Aw

namespace Aw
open PySem L2
open Classical in
/-- in one knot -/
def Kno (f : Str → List Str) (a b : Str) : Prop := b = a ∨ (Rch f a b ∧ Rch f b a)
theorem Kno.refl (f : Str → List Str) (a : Str) : Kno f a a := .inl rfl
theorem Kno.symm {f : Str → List Str} {a b : Str} (h : Kno f a b) : Kno f b a := h.elim (fun e => .inl e.symm) fun h => .inr ⟨h.2, h.1⟩
theorem Kno.trans {f : Str → List Str} {a b c : Str} (h : Kno f a b) (k : Kno f b c) : Kno f a c := by
  rcases h with e | ⟨h1, h2⟩
  · rw [e] at k; exact k
  · rcases k with e | ⟨k1, k2⟩
    · rw [e]; exact .inr ⟨h1, h2⟩
    · exact .inr ⟨h1.trans k1, k2.trans h2⟩
open Classical in
noncomputable def fil (p : Str → Prop) (l : List Str) : List Str := l.filter fun o => decide (p o)
theorem fil_congr {p q : Str → Prop} {l : List Str} (h : ∀ o, p o ↔ q o) : fil p l = fil q l := by
  rw [show p = q from funext fun o => propext (h o)]
open Classical in
theorem fil_pos {p : Str → Prop} {l : List Str} {x : Str} (h : p x) : fil p (l ++ [x]) = fil p l ++ [x] := by
  unfold fil
  rw [List.filter_append]
  congr 1
  exact List.filter_cons_of_pos (decide_eq_true h)
open Classical in
theorem fil_neg {p : Str → Prop} {l : List Str} {x : Str} (h : ¬ p x) : fil p (l ++ [x]) = fil p l := by
  unfold fil
  rw [List.filter_append]
  have e : [x].filter (fun o => decide (p o)) = [] := List.filter_cons_of_neg (by rw [decide_eq_false h]; decide)
  rw [e]
  exact List.append_nil _
theorem fil_len (p : Str → Prop) (l : List Str) : (fil p l).length ≤ l.length := by unfold fil; exact List.length_filter_le _ _
noncomputable def knotM (f : Str → List Str) (ns : List Str) (n : Str) : List Str := fil (Kno f n) ns
open Classical in
theorem mem_knotM {f : Str → List Str} {ns : List Str} {n o : Str} : o ∈ knotM f ns n ↔ o ∈ ns ∧ Kno f n o := by
  unfold knotM fil
  exact ⟨fun h => ⟨(List.mem_filter.mp h).1, of_decide_eq_true (List.mem_filter.mp h).2⟩, fun h => List.mem_filter.mpr ⟨h.1, decide_eq_true h.2⟩⟩
theorem knotM_eq {f : Str → List Str} {ns : List Str} {a b : Str} (h : Kno f a b) : knotM f ns a = knotM f ns b := by
  unfold knotM
  exact fil_congr fun o => ⟨fun k => h.symm.trans k, fun k => h.trans k⟩
open Classical in
noncomputable def knStep (f : Str → List Str) (ns : List Str) (acc : List (List Str)) (n : Str) : List (List Str) := if ∃ k ∈ acc, n ∈ k then acc else acc ++ [knotM f ns n]
noncomputable def knotsM (f : Str → List Str) (ns : List Str) : List (List Str) := ns.foldl (knStep f ns) []
theorem foldl_take {α β : Type} (g : β → α → β) {l : List α} {i : Nat} {x : α} (h : l[i]? = some x) (b : β) : (l.take (i + 1)).foldl g b = g ((l.take i).foldl g b) x := by
  rw [take_more h, List.foldl_append]
  rfl
/-- all lists so far are knots of names -/
theorem knots_sub {f : Str → List Str} {ns : List Str} : ∀ (l : List Str) (acc : List (List Str)), (∀ k ∈ acc, ∃ n ∈ ns, k = knotM f ns n) → (∀ n ∈ l, n ∈ ns) → ∀ k ∈ l.foldl (knStep f ns) acc, ∃ n ∈ ns, k = knotM f ns n
  | [], acc, h, _ => h
  | n :: r, acc, h, hl => by
    rw [List.foldl_cons]
    refine knots_sub r _ (fun k hk => ?_) fun x hx => hl x (List.mem_cons_of_mem _ hx)
    unfold knStep at hk
    split at hk
    · exact h k hk
    · rcases List.mem_append.mp hk with q | q
      · exact h k q
      · exact ⟨n, hl n List.mem_cons_self, List.mem_singleton.mp q⟩
theorem knots_len {f : Str → List Str} {ns : List Str} : ∀ (l : List Str) (acc : List (List Str)), (l.foldl (knStep f ns) acc).length ≤ acc.length + l.length
  | [], acc => Nat.le_refl _
  | n :: r, acc => by
    have ih := knots_len (f := f) (ns := ns) r (knStep f ns acc n)
    have h1 : (knStep f ns acc n).length ≤ acc.length + 1 := by
      unfold knStep
      split
      · omega
      · rw [List.length_append, List.length_singleton]; omega
    rw [List.foldl_cons, List.length_cons]
    omega
/-- turned round -/
theorem Rch.turn {f g : Str → List Str} (h : ∀ a b, b ∈ f a → a ∈ g b) {a b : Str} (r : Rch f a b) : Rch g b a := by
  induction r with
  | one q => exact .one (h _ _ q)
  | more _ q ih => exact Rch.head (h _ _ q) ih
theorem Rch.imp {f g : Str → List Str} (h : ∀ a b, b ∈ f a → b ∈ g a) {a b : Str} (r : Rch f a b) : Rch g a b := by
  induction r with
  | one q => exact .one (h _ _ q)
  | more _ q ih => exact .more ih (h _ _ q)
/-! ### leanings as pairs -/
abbrev Eg := List (Str × Str)
def lwE (E : Eg) (s : Str) : List Str := (E.filter fun e => decide (e.1 = s)).map (·.2)
def lbE (E : Eg) (s : Str) : List Str := (E.filter fun e => decide (e.2 = s)).map (·.1)
theorem mem_lwE {E : Eg} {a b : Str} : b ∈ lwE E a ↔ (a, b) ∈ E := by
  unfold lwE
  rw [List.mem_map]
  constructor
  · rintro ⟨p, hp, rfl⟩
    obtain ⟨h1, h2⟩ := List.mem_filter.mp hp
    have e := of_decide_eq_true h2
    subst e
    exact h1
  · intro h
    exact ⟨_, List.mem_filter.mpr ⟨h, decide_eq_true rfl⟩, rfl⟩
theorem mem_lbE {E : Eg} {a b : Str} : a ∈ lbE E b ↔ (a, b) ∈ E := by
  unfold lbE
  rw [List.mem_map]
  constructor
  · rintro ⟨p, hp, rfl⟩
    obtain ⟨h1, h2⟩ := List.mem_filter.mp hp
    have e := of_decide_eq_true h2
    subst e
    exact h1
  · intro h
    exact ⟨_, List.mem_filter.mpr ⟨h, decide_eq_true rfl⟩, rfl⟩
theorem lwE_snoc (E : Eg) (a b s : Str) : lwE (E ++ [(a, b)]) s = if s = a then lwE E s ++ [b] else lwE E s := by
  unfold lwE
  rw [List.filter_append, List.map_append]
  by_cases c : s = a
  · rw [if_pos c, List.filter_cons_of_pos (by rw [c]; exact decide_eq_true rfl)]
    rfl
  · rw [if_neg c, List.filter_cons_of_neg (by intro z; exact c (of_decide_eq_true z).symm)]
    exact List.append_nil _
theorem lbE_snoc (E : Eg) (a b s : Str) : lbE (E ++ [(a, b)]) s = if s = b then lbE E s ++ [a] else lbE E s := by
  unfold lbE
  rw [List.filter_append, List.map_append]
  by_cases c : s = b
  · rw [if_pos c, List.filter_cons_of_pos (by rw [c]; exact decide_eq_true rfl)]
    rfl
  · rw [if_neg c, List.filter_cons_of_neg (by intro z; exact c (of_decide_eq_true z).symm)]
    exact List.append_nil _
theorem sum_filt {α : Type} (g : α → Str) : ∀ (ns : List Str), ns.Nodup → ∀ E : List α, (ns.map fun s => (E.filter fun e => decide (g e = s)).length).sum ≤ E.length
  | [], _, E => Nat.zero_le _
  | n :: r, nd, E => by
    rw [List.nodup_cons] at nd
    have ih := sum_filt g r nd.2 (E.filter fun e => !decide (g e = n))
    have e1 : (r.map fun s => (E.filter fun e => decide (g e = s)).length) = r.map fun s => ((E.filter fun e => !decide (g e = n)).filter fun e => decide (g e = s)).length := by
      refine List.map_congr_left fun s hs => ?_
      rw [List.filter_filter]
      congr 1
      refine List.filter_congr fun e _ => ?_
      by_cases c : g e = s
      · have : g e ≠ n := fun z => nd.1 (by rw [← z, c]; exact hs)
        simp [c, this]
        exact fun z => this (c.trans z)
      · simp [c]
    rw [List.map_cons, List.sum_cons, e1]
    have e2 : (E.filter fun e => decide (g e = n)).length + (E.filter fun e => !decide (g e = n)).length = E.length := by
      clear ih e1
      induction E with
      | nil => rfl
      | cons e t iht =>
        by_cases c : g e = n
        · rw [List.filter_cons_of_pos (by simp [c]), List.filter_cons_of_neg (by simp [c]), List.length_cons, List.length_cons]; omega
        · rw [List.filter_cons_of_neg (by simp [c]), List.filter_cons_of_pos (by simp [c]), List.length_cons, List.length_cons]; omega
    omega
/-! ### dicts of lists by functions -/
def fm (ns : List Str) (av : Str → Addr) (lv : Str → List Str) : LM := ns.map fun s => (s, av s, lv s)
theorem keys_fm (ns : List Str) (av : Str → Addr) (lv : Str → List Str) : keysM (fm ns av lv) = ns := by
  unfold keysM fm
  rw [List.map_map]
  exact List.map_id ns
theorem kvL_fm (ns : List Str) (av : Str → Addr) (lv : Str → List Str) : kvL (fm ns av lv) = ns.map fun s => ((Sum.inr s : Key), V.ref (av s)) := by
  unfold kvL fm
  rw [List.map_map]
  rfl
theorem lof_fm {ns : List Str} {av : Str → Addr} {lv : Str → List Str} {s : Str} (h : s ∈ ns) : lof (fm ns av lv) s = lv s := by
  induction ns with
  | nil => cases h
  | cons n r ih =>
    by_cases c : n = s
    · subst c; exact lof_pos rfl
    · exact (lof_neg (p := (n, av n, lv n)) (r := fm r av lv) c).trans (ih ((List.mem_cons.mp h).resolve_left fun z => c z.symm))
theorem lof_fm0 {ns : List Str} {av : Str → Addr} {lv : Str → List Str} {s : Str} (h : s ∉ ns) : lof (fm ns av lv) s = [] := by
  unfold lof
  rw [lkp_none.mpr (by rw [keys_fm]; exact h)]
theorem tot_fm (ns : List Str) (av : Str → Addr) (lv : Str → List Str) : tot (fm ns av lv) = (ns.map fun s => (lv s).length).sum := by
  unfold tot fm
  rw [List.map_map]
  rfl
theorem tot_w {ns : List Str} (nd : ns.Nodup) (av : Str → Addr) (E : Eg) : tot (fm ns av (lwE E)) ≤ E.length := by
  rw [tot_fm]
  refine Nat.le_trans (Nat.le_of_eq ?_) (sum_filt (·.1) ns nd E)
  congr 1
  exact List.map_congr_left fun s _ => List.length_map _
theorem tot_b {ns : List Str} (nd : ns.Nodup) (av : Str → Addr) (E : Eg) : tot (fm ns av (lbE E)) ≤ E.length := by
  rw [tot_fm]
  refine Nat.le_trans (Nat.le_of_eq ?_) (sum_filt (·.2) ns nd E)
  congr 1
  exact List.map_congr_left fun s _ => List.length_map _
/-- the sum of what the names lean on -/
def leanSum (m : LM) (l : List Str) : Nat := (l.map fun s => (lof m s).length).sum
/-- the pairs so far: names ahead of the i-th, and j of the i-th's -/
structure Edges (m : LM) (ns : List Str) (i j : Nat) (E : Eg) : Prop where
  ok : ∀ a b, (a, b) ∈ E → a ∈ ns ∧ b ∈ ns ∧ b ∈ lof m a
  all : ∀ a ∈ ns.take i, ∀ b ∈ lof m a, b ∈ ns → (a, b) ∈ E
  part : ∀ a, ns[i]? = some a → ∀ b ∈ (lof m a).take j, b ∈ ns → (a, b) ∈ E
  ln : E.length ≤ leanSum m (ns.take i) + j
theorem Edges.start (m : LM) (ns : List Str) : Edges m ns 0 0 [] := ⟨fun a b h => (by cases h), fun a h => (by cases h), fun a _ b h => (by rw [List.take_zero] at h; cases h), Nat.zero_le _⟩
theorem Edges.skip {m : LM} {ns : List Str} {i j : Nat} {E : Eg} (h : Edges m ns i j E) {a b : Str} (ha : ns[i]? = some a) (hb : (lof m a)[j]? = some b) (n : b ∉ ns) : Edges m ns i (j + 1) E :=
  ⟨h.ok, h.all, fun a' ha' x hx hn => by
    rw [ha] at ha'
    cases ha'
    rw [take_more hb] at hx
    rcases List.mem_append.mp hx with q | q
    · exact h.part a ha x q hn
    · rw [List.mem_singleton.mp q] at hn; exact absurd hn n, by have := h.ln; omega⟩
theorem Edges.step {m : LM} {ns : List Str} {i j : Nat} {E : Eg} (h : Edges m ns i j E) {a b : Str} (ha : ns[i]? = some a) (hb : (lof m a)[j]? = some b) (n : b ∈ ns) : Edges m ns i (j + 1) (E ++ [(a, b)]) := by
  refine ⟨fun x y hxy => ?_, fun x hx y hy hn => List.mem_append_left _ (h.all x hx y hy hn), fun a' ha' x hx hn => ?_, ?_⟩
  · rcases List.mem_append.mp hxy with q | q
    · exact h.ok x y q
    · cases List.mem_singleton.mp q
      exact ⟨List.mem_of_getElem? ha, n, List.mem_of_getElem? hb⟩
  · rw [ha] at ha'
    cases ha'
    rw [take_more hb] at hx
    rcases List.mem_append.mp hx with q | q
    · exact List.mem_append_left _ (h.part a ha x q hn)
    · rw [List.mem_singleton.mp q]; exact List.mem_append_right _ (List.mem_singleton.mpr rfl)
  · rw [List.length_append, List.length_singleton]
    have := h.ln
    omega
theorem Edges.next {m : LM} {ns : List Str} {i : Nat} {E : Eg} {a : Str} (h : Edges m ns i (lof m a).length E) (ha : ns[i]? = some a) : Edges m ns (i + 1) 0 E := by
  refine ⟨h.ok, fun x hx y hy hn => ?_, fun a' _ x hx => (by rw [List.take_zero] at hx; cases hx), ?_⟩
  · rw [take_more ha] at hx
    rcases List.mem_append.mp hx with q | q
    · exact h.all x q y hy hn
    · have e := List.mem_singleton.mp q
      rw [e] at hy ⊢
      exact h.part a ha y (by rw [List.take_length]; exact hy) hn
  · have := h.ln
    unfold leanSum at this ⊢
    rw [take_more ha, List.map_append, List.sum_append]
    simpa using this
theorem leanSum_take (m : LM) (l : List Str) (i : Nat) : leanSum m (l.take i) ≤ leanSum m l := by
  have e : leanSum m l = leanSum m (l.take i) + leanSum m (l.drop i) := by
    unfold leanSum
    rw [← List.sum_append, ← List.map_append, List.take_append_drop]
  omega
/-- what leans, of the names handed in -/
def inner (m : LM) (ns : List Str) (a : Str) : List Str := if a ∈ ns then (lof m a).filter fun b => decide (b ∈ ns) else []
theorem mem_inner {m : LM} {ns : List Str} {a b : Str} : b ∈ inner m ns a ↔ a ∈ ns ∧ b ∈ lof m a ∧ b ∈ ns := by
  unfold inner
  split
  · next h => rw [List.mem_filter, decide_eq_true_iff]; exact ⟨fun q => ⟨h, q⟩, fun q => q.2⟩
  · next h => exact ⟨fun q => (by cases q), fun q => absurd q.1 h⟩
theorem Edges.done {m : LM} {ns : List Str} {E : Eg} (h : Edges m ns ns.length 0 E) (a b : Str) : (a, b) ∈ E ↔ b ∈ inner m ns a := by
  rw [mem_inner]
  exact ⟨fun q => ⟨(h.ok a b q).1, (h.ok a b q).2.2, (h.ok a b q).2.1⟩, fun ⟨h1, h2, h3⟩ => h.all a (by rw [List.take_length]; exact h1) b h2 h3⟩
theorem rch_w {m : LM} {ns : List Str} {E : Eg} (h : Edges m ns ns.length 0 E) (av : Str → Addr) (a b : Str) : Rch (lof (fm ns av (lwE E))) a b ↔ Rch (inner m ns) a b := by
  constructor
  · refine Rch.imp fun x y hy => ?_
    by_cases c : x ∈ ns
    · rw [lof_fm c, mem_lwE] at hy; exact (h.done x y).mp hy
    · rw [lof_fm0 c] at hy; cases hy
  · refine Rch.imp fun x y hy => ?_
    rw [lof_fm (mem_inner.mp hy).1, mem_lwE]
    exact (h.done x y).mpr hy
theorem rch_b {m : LM} {ns : List Str} {E : Eg} (h : Edges m ns ns.length 0 E) (av : Str → Addr) (a b : Str) : Rch (lof (fm ns av (lbE E))) a b ↔ Rch (inner m ns) b a := by
  constructor
  · refine Rch.turn fun x y hy => ?_
    by_cases c : x ∈ ns
    · rw [lof_fm c, mem_lbE] at hy; exact (h.done y x).mp hy
    · rw [lof_fm0 c] at hy; cases hy
  · refine Rch.turn fun x y hy => ?_
    rw [lof_fm (mem_inner.mp hy).2.2, mem_lbE]
    exact (h.done x y).mpr hy
theorem kn_iff {m : LM} {ns : List Str} {E : Eg} (h : Edges m ns ns.length 0 E) (aw ab : Str → Addr) (n o : Str) : (o = n ∨ (Rch (lof (fm ns aw (lwE E))) n o ∧ Rch (lof (fm ns ab (lbE E))) n o)) ↔ Kno (inner m ns) n o := by
  rw [rch_w h, rch_b h]
  exact Iff.rfl
/-! ### what the text's own way finds: the same knots -/
open Classical in
theorem notIn_iff {f : Str → List Str} {ns : List Str} {acc : List (List Str)} (h : ∀ k ∈ acc, ∃ n ∈ ns, k = knotM f ns n) {n : Str} (hn : n ∈ ns) : (∃ k ∈ acc, n ∈ k) ↔ knotM f ns n ∈ acc := by
  constructor
  · rintro ⟨k, hk, hnk⟩
    obtain ⟨z, _, e⟩ := h k hk
    rw [e] at hnk
    rw [← knotM_eq (mem_knotM.mp hnk).2, ← e]
    exact hk
  · intro q
    exact ⟨_, q, mem_knotM.mpr ⟨hn, Kno.refl f n⟩⟩
theorem recv {ws : List Str} {rv : Str → V} {s : Str} (h : s ∈ ws) : valV (ws.map fun s => ((Sum.inr s : Key), rv s)) (Sum.inr s) = some (rv s) := by
  induction ws with
  | nil => cases h
  | cons a r ih =>
    by_cases e : a = s
    · subst e; exact valV_pos rfl
    · rw [List.map_cons, valV_neg (fun z => e (Sum.inr.inj z))]
      exact ih ((List.mem_cons.mp h).resolve_left (Ne.symm e))
theorem valn {g : Str → V} {l : List Str} {s : Str} (h : s ∉ l) : valV (l.map fun z => ((Sum.inr z : Key), g z)) (Sum.inr s) = none := by
  induction l with
  | nil => rfl
  | cons a r ih =>
    rw [List.map_cons, valV_neg (fun z => h (by rw [← Sum.inr.inj z]; exact List.mem_cons_self))]
    exact ih fun z => h (List.mem_cons_of_mem _ z)
theorem is_in {g : Str → V} {l : List Str} (s : Str) : (valV (l.map fun z => ((Sum.inr z : Key), g z)) (Sum.inr s)).isSome = decide (s ∈ l) := by
  by_cases h : s ∈ l
  · rw [recv h, decide_eq_true h]; rfl
  · rw [valn h, decide_eq_false h]; rfl
theorem not_tks {ws : List Str} (nd : ws.Nodup) {i : Nat} {s : Str} (hi : ws[i]? = some s) : s ∉ ws.take i := fun h => by
  obtain ⟨j, hj, e⟩ := List.mem_take_iff_getElem.mp h
  have hlt := (List.getElem?_eq_some_iff.mp hi).1
  have e2 := (List.getElem?_eq_some_iff.mp hi).2
  have := (List.getElem_inj (h₀ := by omega) (h₁ := hlt) nd).mp (e.trans e2.symm)
  omega
/-- dicts of new empty lists, then filled -/
structure Frsh (H : Hp) (ns : List Str) (av : Str → Addr) : Prop where
  free : ∀ s ∈ ns, H (av s) = none
  inj : ∀ s ∈ ns, ∀ t ∈ ns, av s = av t → s = t
structure EdgAt (H H' : Hp) (ns : List Str) (W B : Addr) (aw ab : Str → Addr) (E : Eg) : Prop where
  s : Same H H'
  w : H' W = some (.dK (ns.map fun s => ((Sum.inr s : Key), V.ref (aw s))))
  b : H' B = some (.dK (ns.map fun s => ((Sum.inr s : Key), V.ref (ab s))))
  lw : ∀ s ∈ ns, H' (aw s) = some (.lst ((lwE E s).map V.str))
  lb : ∀ s ∈ ns, H' (ab s) = some (.lst ((lbE E s).map V.str))
theorem EdgAt.mono {H H' H2 : Hp} {ns : List Str} {W B : Addr} {aw ab : Str → Addr} {E : Eg} (h : EdgAt H H' ns W B aw ab E) (s : Same H' H2) : EdgAt H H2 ns W B aw ab E := ⟨h.s.trans s, s _ _ h.w, s _ _ h.b, fun x hx => s _ _ (h.lw x hx), fun x hx => s _ _ (h.lb x hx)⟩
theorem EdgAt.step {H H' : Hp} {ns : List Str} {W B : Addr} {aw ab : Str → Addr} {E : Eg} (h : EdgAt H H' ns W B aw ab E) (fw : Frsh H ns aw) (fb : Frsh H ns ab) (dis : ∀ s ∈ ns, ∀ t ∈ ns, aw s ≠ ab t) {a b : Str} (ha : a ∈ ns) (hb : b ∈ ns) :
    EdgAt H (upd (upd H' (aw a) (.lst ((lwE E a).map V.str ++ [.str b]))) (ab b) (.lst ((lbE E b).map V.str ++ [.str a]))) ns W B aw ab (E ++ [(a, b)]) := by
  have lwa := h.lw a ha
  have lbb := h.lb b hb
  have nWa : W ≠ aw a := ne_of h.w lwa (by intro z; cases z)
  have nWb : W ≠ ab b := ne_of h.w lbb (by intro z; cases z)
  have nBa : B ≠ aw a := ne_of h.b lwa (by intro z; cases z)
  have nBb : B ≠ ab b := ne_of h.b lbb (by intro z; cases z)
  refine ⟨same_upd (same_upd h.s (fw.free a ha) _) (fb.free b hb) _, by rw [upd_ne nWb, upd_ne nWa]; exact h.w, by rw [upd_ne nBb, upd_ne nBa]; exact h.b, fun x hx => ?_, fun x hx => ?_⟩
  · rw [upd_ne (dis x hx b hb), lwE_snoc]
    by_cases c : x = a
    · subst c
      rw [if_pos rfl, upd_same, List.map_append]
      rfl
    · rw [if_neg c, upd_ne (fun z => c (fw.inj x hx a ha z))]
      exact h.lw x hx
  · rw [lbE_snoc]
    by_cases c : x = b
    · subst c
      rw [if_pos rfl, upd_same, List.map_append]
      rfl
    · rw [if_neg c, upd_ne (fun z => c (fb.inj x hx b hb z)), upd_ne (fun z => dis a ha x hx z.symm)]
      exact h.lb x hx
theorem EdgAt.lat {H H' : Hp} {ns : List Str} {W B : Addr} {aw ab : Str → Addr} {E : Eg} (h : EdgAt H H' ns W B aw ab E) : LAt H' W (fm ns aw (lwE E)) ∧ LAt H' B (fm ns ab (lbE E)) := by
  refine ⟨⟨by rw [kvL_fm]; exact h.w, fun p hp => ?_⟩, ⟨by rw [kvL_fm]; exact h.b, fun p hp => ?_⟩⟩
  · obtain ⟨s, hs, e⟩ := List.mem_map.mp hp
    rw [← e]; exact h.lw s hs
  · obtain ⟨s, hs, e⟩ := List.mem_map.mp hp
    rw [← e]; exact h.lb s hs
theorem frsh_step {H HB : Hp} {W e : Addr} {l : List Str} {z : Str} {aw : Str → Addr} (sA : Same H HB) (hW : H W = none) (eW : HB W = some (.dK (l.map fun s => ((Sum.inr s : Key), V.ref (aw s))))) (fr : Frsh H l aw) (el : ∀ s ∈ l, HB (aw s) = some (.lst []) ∧ aw s ≠ W) (nz : z ∉ l) (he : HB e = none) :
    Same H (upd (upd HB e (.lst [])) W (.dK (putK (l.map fun s => ((Sum.inr s : Key), V.ref (aw s))) (Sum.inr z) (.ref e)))) ∧ ∃ av : Str → Addr, (upd (upd HB e (.lst [])) W (.dK (putK (l.map fun s => ((Sum.inr s : Key), V.ref (aw s))) (Sum.inr z) (.ref e)))) W = some (.dK ((l ++ [z]).map fun s => ((Sum.inr s : Key), V.ref (av s)))) ∧
      Frsh H (l ++ [z]) av ∧ ∀ s ∈ l ++ [z], (upd (upd HB e (.lst [])) W (.dK (putK (l.map fun s => ((Sum.inr s : Key), V.ref (aw s))) (Sum.inr z) (.ref e)))) (av s) = some (.lst []) ∧ av s ≠ W := by
  have nWe : W ≠ e := ne_of_none eW he
  have nl : ∀ s ∈ l, s ≠ z := fun s hs c => nz (by rw [← c]; exact hs)
  have nae : ∀ s ∈ l, aw s ≠ e := fun s hs => ne_of_none (el s hs).1 he
  obtain ⟨av, hav⟩ : ∃ av : Str → Addr, ∀ s, av s = if s = z then e else aw s := ⟨_, fun _ => rfl⟩
  have ap : ∀ s ∈ l, av s = aw s := fun s hs => by rw [hav, if_neg (nl s hs)]
  have az : av z = e := by rw [hav, if_pos rfl]
  refine ⟨same_upd (sA.trans (same_new he _)) hW _, av, ?_, ⟨fun s hs => ?_, fun s hs t ht q => ?_⟩, fun s hs => ?_⟩
  · rw [upd_same, putK_new _ (valn nz), List.map_append]
    congr 2
    congr 1
    · refine List.map_congr_left fun s hs => ?_
      rw [ap s hs]
    · show [((Sum.inr z : Key), V.ref e)] = [((Sum.inr z : Key), V.ref (av z))]
      rw [az]
  · rcases List.mem_append.mp hs with c | c
    · rw [ap s c]; exact fr.free s c
    · rw [List.mem_singleton.mp c, az]; exact sA.free he
  · rcases List.mem_append.mp hs with c | c
    · rcases List.mem_append.mp ht with d | d
      · rw [ap s c, ap t d] at q
        exact fr.inj s c t d q
      · rw [ap s c, List.mem_singleton.mp d, az] at q
        exact absurd q (nae s c)
    · rcases List.mem_append.mp ht with d | d
      · rw [ap t d, List.mem_singleton.mp c, az] at q
        exact absurd q.symm (nae t d)
      · rw [List.mem_singleton.mp c, List.mem_singleton.mp d]
  · rcases List.mem_append.mp hs with c | c
    · rw [ap s c, upd_ne (el s c).2, upd_ne (nae s c)]
      exact el s c
    · rw [List.mem_singleton.mp c, az, upd_ne nWe.symm]
      exact ⟨upd_same, nWe.symm⟩
theorem leanSum_mem {m : LM} {l : List Str} {s : Str} (h : s ∈ l) : (lof m s).length ≤ leanSum m l := by
  induction l with
  | nil => cases h
  | cons a r ih =>
    unfold leanSum
    rw [List.map_cons, List.sum_cons]
    rcases List.mem_cons.mp h with e | e
    · rw [e]; omega
    · have := ih e; unfold leanSum at this; omega
theorem ind_sum (n : Str) (k : Nat) : ∀ {l : List Str}, l.Nodup → (l.map fun s => if n = s then k else 0).sum ≤ k
  | [], _ => Nat.zero_le _
  | a :: r, nd => by
    rw [List.nodup_cons] at nd
    rw [List.map_cons, List.sum_cons]
    by_cases c : n = a
    · have z : (r.map fun s => if n = s then k else 0).sum = 0 := by
        have e : (r.map fun s => if n = s then k else 0) = r.map fun _ => 0 := List.map_congr_left fun s hs => if_neg fun q => nd.1 (by rw [← c, q]; exact hs)
        rw [e]
        clear e nd c
        induction r with
        | nil => rfl
        | cons x t ih => rw [List.map_cons, List.sum_cons, ih]
      rw [if_pos c, z]; omega
    · rw [if_neg c]
      have := ind_sum n k nd.2
      omega
theorem leanSum_tot : ∀ (m : LM) {l : List Str}, l.Nodup → leanSum m l ≤ tot m
  | [], l, _ => by
    unfold leanSum
    have e : (l.map fun s => (lof [] s).length) = l.map fun _ => 0 := rfl
    rw [e]
    induction l with
    | nil => exact Nat.le_refl _
    | cons x t ih => rename_i h; rw [List.nodup_cons] at h; rw [List.map_cons, List.sum_cons]; have := ih h.2 rfl; omega
  | p :: r, l, nd => by
    have ih := leanSum_tot r nd
    have h1 := ind_sum p.1 p.2.2.length nd
    have h2 : leanSum (p :: r) l ≤ leanSum r l + (l.map fun s => if p.1 = s then p.2.2.length else 0).sum := by
      clear ih h1 nd
      unfold leanSum
      induction l with
      | nil => exact Nat.le_refl _
      | cons a t ih =>
        rw [List.map_cons, List.map_cons, List.map_cons, List.sum_cons, List.sum_cons, List.sum_cons]
        by_cases c : p.1 = a
        · rw [lof_pos c, if_pos c]; omega
        · rw [lof_neg c, if_neg c]; omega
    unfold tot at ih ⊢
    rw [List.map_cons, List.sum_cons]
    omega
end Aw

namespace Aw
open PySem L2
/-! ### what is kept behind an ask -/
/-- the names that a work read in its last run -/
def leansR (st : Ak) (s : Str) : List Str := namesRd (lastRd ((alk st.ran s).getD []))
def innerR (st : Ak) (a : Str) : List Str := if a ∈ akeys st.ran then (leansR st a).filter fun b => decide (b ∈ akeys st.ran) else []
noncomputable def knotsR (st : Ak) : List (List Str) := knotsM (innerR st) (akeys st.ran)
def mkKt (recs : AL T) (st : Ak) (names : List Str) : Kt := ⟨names.map fun s => (s, recOf recs s), names.map fun s => (s, (alk st.ran s).getD [])⟩
def keepStep (recs : AL T) (st : Ak) (m : AL Kt) (names : List Str) : AL Kt := names.foldl (fun m s => aput m s (mkKt recs st names)) m
noncomputable def keepM (recs : AL T) (st : Ak) : Ak := { st with kept := (knotsR st).foldl (keepStep recs st) st.kept }
theorem len_aputK {α : Type} (m : AL α) (s : Str) (x : α) : (aput m s x).length ≤ m.length + 1 := by
  have h := akeys_put (m := m) (s := s) (x := x)
  have e : (akeys (aput m s x)).length ≤ (akeys m).length + 1 := by
    rw [h]
    split
    · omega
    · rw [List.length_append]; exact Nat.le_refl _
  unfold akeys at e
  rw [List.length_map, List.length_map] at e
  exact e
theorem len_aputs {α : Type} (x : α) : ∀ (l : List Str) (m : AL α), (l.foldl (fun m s => aput m s x) m).length ≤ m.length + l.length
  | [], m => Nat.le_refl _
  | s :: r, m => by
    rw [List.foldl_cons, List.length_cons]
    have h1 := len_aputs x r (aput m s x)
    have h2 := len_aputK m s x
    omega
theorem len_keep (recs : AL T) (st : Ak) : ∀ (l : List (List Str)) (m : AL Kt) (B : Nat), (∀ k ∈ l, k.length ≤ B) → (l.foldl (keepStep recs st) m).length ≤ m.length + l.length * B
  | [], m, B, _ => by rw [List.foldl_nil, List.length_nil, Nat.zero_mul]; exact Nat.le_refl _
  | k :: r, m, B, h => by
    rw [List.foldl_cons, List.length_cons, Nat.succ_mul]
    have h1 := len_keep recs st r (keepStep recs st m k) B fun x hx => h x (List.mem_cons_of_mem _ hx)
    have h2 := len_aputs (mkKt recs st k) k m
    have h3 := h k List.mem_cons_self
    have h4 : (keepStep recs st m k).length ≤ m.length + k.length := h2
    omega
theorem knots_bound (st : Ak) : (knotsR st).length ≤ st.ran.length ∧ ∀ k ∈ knotsR st, k.length ≤ st.ran.length ∧ ∀ s ∈ k, s ∈ akeys st.ran := by
  constructor
  · have h := knots_len (f := innerR st) (ns := akeys st.ran) (akeys st.ran) []
    unfold knotsR knotsM
    unfold akeys at h ⊢
    rw [List.length_map] at h
    have e : ([] : List (List Str)).length = 0 := rfl
    omega
  · intro k hk
    obtain ⟨n, hn, e⟩ := knots_sub (f := innerR st) (ns := akeys st.ran) (akeys st.ran) [] (fun k hk => by cases hk) (fun n hn => hn) k hk
    subst e
    refine ⟨?_, fun s hs => (mem_knotM.mp hs).1⟩
    have h := fil_len (Kno (innerR st) n) (akeys st.ran)
    unfold knotM
    unfold akeys at h ⊢
    rw [List.length_map] at h
    exact h
/-! dicts told as they are made -/
theorem aput_take {α : Type} {m : AL α} (nd : (akeys m).Nodup) {i : Nat} {s : Str} {x : α} (h : m[i]? = some (s, x)) : aput (m.take i) s x = m.take (i + 1) := by
  have n : s ∉ akeys (m.take i) := fun w => by
    have hk : (akeys m)[i]? = some s := by unfold akeys; rw [List.getElem?_map, h]; rfl
    have e : akeys (m.take i) = (akeys m).take i := by unfold akeys; rw [List.map_take]
    rw [e] at w
    exact not_tks nd hk w
  rw [take_more h]
  unfold aput
  rw [if_neg n]
theorem lm_of {H : Hp} : ∀ {kvs : List (Key × V)} {al : AL (List Str)}, DR (fun v l => ∃ a, v = .ref a ∧ H a = some (.lst (l.map V.str))) kvs al → ∃ m : LM, kvL m = kvs ∧ (∀ p ∈ m, H p.2.1 = some (.lst (p.2.2.map V.str))) ∧ m.map (fun p => (p.1, p.2.2)) = al := by
  intro kvs al h
  unfold DR at h
  induction h with
  | nil => exact ⟨[], rfl, fun p hp => (by cases hp), rfl⟩
  | @cons kv q ks qs h t ih =>
    obtain ⟨h1, a, h2, h3⟩ := h
    obtain ⟨m, e1, e2, e3⟩ := ih
    refine ⟨(q.1, a, q.2) :: m, ?_, fun p hp => ?_, ?_⟩
    · show (Sum.inr q.1, V.ref a) :: kvL m = _
      rw [e1, ← h1, ← h2]
    · rcases List.mem_cons.mp hp with w | w
      · rw [w]; exact h3
      · exact e2 p w
    · show (q.1, q.2) :: m.map _ = _
      rw [e3]
theorem lof_al : ∀ (m : LM) (s : Str), lof m s = (alk (m.map fun p => (p.1, p.2.2)) s).getD []
  | [], s => rfl
  | p :: r, s => by
    have ih := lof_al r s
    by_cases c : p.1 = s
    · unfold lof lkp
      rw [if_pos c, List.map_cons, alk_pos (show ((p.1, p.2.2) : Str × List Str).1 = s from c)]
      rfl
    · have e1 : lof (p :: r) s = lof r s := by unfold lof; rw [show lkp (p :: r) s = lkp r s from if_neg c]
      rw [e1, ih, List.map_cons, alk_neg (show ¬ ((p.1, p.2.2) : Str × List Str).1 = s from c)]
theorem alk_mapv {α β : Type} (g : α → β) : ∀ (m : AL α) (s : Str), alk (m.map fun p => (p.1, g p.2)) s = (alk m s).map g
  | [], s => rfl
  | p :: r, s => by
    have ih := alk_mapv g r s
    by_cases c : p.1 = s
    · rw [List.map_cons, alk_pos c, alk_pos (show ((p.1, g p.2) : Str × β).1 = s from c)]; rfl
    · rw [List.map_cons, alk_neg c, alk_neg (show ¬ ((p.1, g p.2) : Str × β).1 = s from c), ih]
/-- the names read by all works' last runs, as a dict -/
def leansA (st : Ak) : AL (List Str) := st.ran.map fun p => (p.1, namesRd (lastRd p.2))
theorem lof_leans {st : Ak} {m : LM} (h : m.map (fun p => (p.1, p.2.2)) = leansA st) (s : Str) : lof m s = leansR st s := by
  rw [lof_al, h]
  unfold leansA leansR
  rw [alk_mapv (fun rs => namesRd (lastRd rs))]
  cases alk st.ran s with
  | none => rfl
  | some rs => rfl
theorem inner_leans {st : Ak} {m : LM} (h : m.map (fun p => (p.1, p.2.2)) = leansA st) : inner m (akeys st.ran) = innerR st := by
  funext a
  unfold inner innerR
  rw [lof_leans h]
/-! ### all that is kept is well kept -/
/-- what an asking's telling where a name stands wants -/
structure StOk (st : Ak) : Prop where
  kp : KeptOk st.kept
  rn : ∀ p ∈ st.ran, p.2 ≠ []
  sk : ∀ s ∈ akeys st.set, s ∈ akeys st.ran ∨ s ∈ akeys st.kept
theorem AkInv.so {nums : AL Int} {recs : AL T} {st : Ak} (i : AkInv nums recs st) : StOk st := ⟨i.kp, fun p hp => (i.rn p hp).1, fun s hs => (i.sk s hs).2⟩
theorem alk_aputs {α : Type} (x : α) : ∀ (l : List Str) (m : AL α) (s : Str), alk (l.foldl (fun m s => aput m s x) m) s = if s ∈ l then some x else alk m s
  | [], m, s => by rw [List.foldl_nil, if_neg (fun w => by cases w)]
  | a :: r, m, s => by
    rw [List.foldl_cons, alk_aputs x r, alk_put]
    by_cases c : s ∈ r
    · rw [if_pos c, if_pos (List.mem_cons_of_mem _ c)]
    · rw [if_neg c]
      by_cases c2 : s = a
      · rw [if_pos c2, if_pos (by rw [c2]; exact List.mem_cons_self)]
      · rw [if_neg c2, if_neg (fun w => (List.mem_cons.mp w).elim c2 c)]
theorem keep_at {recs : AL T} {st : Ak} : ∀ (L : List (List Str)) (m : AL Kt), (∀ a ∈ L, ∀ b ∈ L, ∀ s, s ∈ a → s ∈ b → a = b) → ∀ s, (∀ k ∈ L, s ∈ k → alk (L.foldl (keepStep recs st) m) s = some (mkKt recs st k)) ∧ ((∀ k ∈ L, s ∉ k) → alk (L.foldl (keepStep recs st) m) s = alk m s)
  | [], m, _, s => ⟨fun k hk => (by cases hk), fun _ => rfl⟩
  | a :: L, m, h, s => by
    obtain ⟨h1, h2⟩ := keep_at L (keepStep recs st m a) (fun x hx y hy => h x (List.mem_cons_of_mem _ hx) y (List.mem_cons_of_mem _ hy)) s
    rw [List.foldl_cons]
    have e : alk (keepStep recs st m a) s = if s ∈ a then some (mkKt recs st a) else alk m s := alk_aputs _ a m s
    refine ⟨fun k hk hs => ?_, fun n => ?_⟩
    · by_cases c : ∃ b ∈ L, s ∈ b
      · obtain ⟨b, hb, hsb⟩ := c
        have := h k hk b (List.mem_cons_of_mem _ hb) s hs hsb
        rw [this]
        exact h1 b hb hsb
      · have c' : ∀ b ∈ L, s ∉ b := fun b hb w => c ⟨b, hb, w⟩
        rw [h2 c', e]
        rcases List.mem_cons.mp hk with w | w
        · rw [w] at hs ⊢
          rw [if_pos hs]
        · exact absurd hs (c' k w)
    · rw [h2 fun k hk => n k (List.mem_cons_of_mem _ hk), e, if_neg (n a List.mem_cons_self)]
theorem keep_nodup {recs : AL T} {st : Ak} : ∀ (L : List (List Str)) (m : AL Kt), (akeys m).Nodup → (akeys (L.foldl (keepStep recs st) m)).Nodup
  | [], m, h => h
  | a :: L, m, h => keep_nodup L _ (nodup_aputs _ a m h)
theorem knots_dis {f : Str → List Str} {ns : List Str} {a b : List Str} (ha : a ∈ knotsM f ns) (hb : b ∈ knotsM f ns) {s : Str} (h1 : s ∈ a) (h2 : s ∈ b) : a = b := by
  obtain ⟨x, _, rfl⟩ := knots_sub (f := f) (ns := ns) ns [] (fun k hk => by cases hk) (fun n hn => hn) a ha
  obtain ⟨y, _, rfl⟩ := knots_sub (f := f) (ns := ns) ns [] (fun k hk => by cases hk) (fun n hn => hn) b hb
  exact knotM_eq ((mem_knotM.mp h1).2.trans (mem_knotM.mp h2).2.symm)
/-- a way within a knot -/
theorem rch_in {f g : Str → List Str} {e : Str} (h : ∀ a b, b ∈ f a → Kno f e a → Kno f e b → b ∈ g a) {w : Str} (r : Rch f e w) : (w = e ∨ Rch f w e) → Rch g e w := by
  induction r with
  | one hb =>
    intro back
    exact .one (h _ _ hb (.refl f _) (back.elim .inl fun q => .inr ⟨.one hb, q⟩))
  | @more b c r hc ih =>
    intro back
    have bb : Rch f b e := back.elim (fun q => by rw [q] at hc; exact .one hc) fun q => .head hc q
    exact .more (ih (.inr bb)) (h _ _ hc (.inr ⟨r, bb⟩) (back.elim .inl fun q => .inr ⟨.more r hc, q⟩))
theorem alk_tab {α : Type} (g : Str → α) : ∀ (l : List Str) (s : Str), alk (l.map fun s => (s, g s)) s = if s ∈ l then some (g s) else none
  | [], s => by rw [if_neg (fun w => by cases w)]; rfl
  | a :: r, s => by
    have ih := alk_tab g r s
    by_cases c : a = s
    · rw [List.map_cons, alk_pos (show ((a, g a) : Str × α).1 = s from c), if_pos (by rw [c]; exact List.mem_cons_self), c]
    · rw [List.map_cons, alk_neg (show ¬ ((a, g a) : Str × α).1 = s from c), ih]
      by_cases c2 : s ∈ r
      · rw [if_pos c2, if_pos (List.mem_cons_of_mem _ c2)]
      · rw [if_neg c2, if_neg (fun w => (List.mem_cons.mp w).elim (fun q => c q.symm) c2)]
theorem akeys_tab {α : Type} (g : Str → α) (l : List Str) : akeys (l.map fun s => (s, g s)) = l := by
  unfold akeys
  rw [List.map_map]
  exact List.map_id' l
section
variable {nums : AL Int} {recs : AL T}
theorem knotM_nd {f : Str → List Str} {ns : List Str} (nd : ns.Nodup) (n : Str) : (knotM f ns n).Nodup := by
  unfold knotM fil
  exact nd.sublist List.filter_sublist
theorem mkKt_ok {st : Ak} (i : AkInv nums recs st) {n : Str} : KtOk (mkKt recs st (knotM (innerR st) (akeys st.ran) n)) := by
  obtain ⟨ns, hns⟩ : ∃ ns, ns = knotM (innerR st) (akeys st.ran) n := ⟨_, rfl⟩
  have hm : ∀ s, s ∈ ns ↔ s ∈ akeys st.ran ∧ Kno (innerR st) n s := fun s => by rw [hns]; exact mem_knotM
  have nd : ns.Nodup := by rw [hns]; exact knotM_nd i.rd n
  rw [← hns]
  have ern : akeys (mkKt recs st ns).rn = ns := akeys_tab _ ns
  have erc : akeys (mkKt recs st ns).rc = ns := akeys_tab _ ns
  have mem : ∀ p ∈ (mkKt recs st ns).rn, p.1 ∈ ns ∧ ∃ rs, alk st.ran p.1 = some rs ∧ p.2 = rs ∧ (p.1, rs) ∈ st.ran := fun p hp => by
    obtain ⟨s, hs, rfl⟩ := List.mem_map.mp hp
    obtain ⟨rs, e⟩ := alk_in ((hm s).mp hs).1
    exact ⟨hs, rs, e, by dsimp only; rw [e]; rfl, alk_mem e⟩
  have akr : ∀ s ∈ ns, alk (mkKt recs st ns).rn s = some ((alk st.ran s).getD []) := fun s hs => by
    show alk (ns.map fun s => (s, (alk st.ran s).getD [])) s = _
    rw [alk_tab (fun s => (alk st.ran s).getD []), if_pos hs]
  refine ⟨by rw [erc]; exact nd, by rw [ern, erc], fun p hp => ?_, fun p hp r hr q hq hin h0 => ?_, fun p hp r hr q hq => ?_, fun e he w hw => ?_⟩
  · obtain ⟨_, rs, e, e2, hmem⟩ := mem p hp
    rw [e2]
    exact i.rn _ hmem
  · obtain ⟨_, rs, e, e2, hmem⟩ := mem p hp
    rw [e2] at hr
    rw [ern] at hin
    have h1 := (i.rb _ hmem r hr q hq).2
    obtain ⟨rs', e'⟩ := alk_in ((hm q.1).mp hin).1
    have h2 : stM nums recs st q.1 = lastA rs' := by unfold stM; rw [e']
    rw [h2] at h1
    rw [akr q.1 hin, e']
    show ∃ r' ∈ rs', _
    have ne := (i.rn _ (alk_mem e')).1
    unfold lastA at h1
    cases el : rs'.getLast? with
    | none => exact absurd (List.getLast?_eq_none_iff.mp el) ne
    | some r' =>
      rw [el] at h1
      exact ⟨r', List.mem_of_getLast? el, h1⟩
  · obtain ⟨_, rs, e, e2, hmem⟩ := mem p hp
    rw [e2] at hr ⊢
    exact (i.rb _ hmem r hr q hq).1
  · rw [ern] at he hw
    obtain ⟨he1, he2⟩ := (hm e).mp he
    obtain ⟨hw1, hw2⟩ := (hm w).mp hw
    have k := he2.symm.trans hw2
    rcases k with k | ⟨k1, k2⟩
    · exact .inl k
    · right
      refine rch_in (f := innerR st) (fun a b hb ka kb => ?_) k1 (.inr k2)
      have ia : ∀ a, Kno (innerR st) e a → a ∈ akeys st.ran → a ∈ ns := fun a ka ha => (hm a).mpr ⟨ha, he2.trans ka⟩
      unfold innerR at hb
      split at hb
      · next ca =>
        have hb' := List.mem_filter.mp hb
        have cb := of_decide_eq_true hb'.2
        have ha := ia a ka ca
        have hbn := ia b kb cb
        unfold inK
        refine List.mem_filter.mpr ⟨?_, decide_eq_true (by rw [ern]; exact hbn)⟩
        have h3 : b ∈ namesRd (lastRd ((alk st.ran a).getD [])) := hb'.1
        unfold namesRd at h3
        have h4 := mem_once.mp h3
        unfold ktRd
        rw [akr a ha]
        exact h4
      · cases hb
theorem keep_ok {st : Ak} (i : AkInv nums recs st) : KeptOk (keepM recs st).kept := by
  have sep : ∀ a ∈ knotsR st, ∀ b ∈ knotsR st, ∀ s, s ∈ a → s ∈ b → a = b := fun a ha b hb s h1 h2 => knots_dis ha hb h1 h2
  have K := fun s => keep_at (recs := recs) (st := st) (knotsR st) st.kept sep s
  have of : ∀ k ∈ knotsR st, ∃ n, k = knotM (innerR st) (akeys st.ran) n := fun k hk => by
    obtain ⟨n, _, e⟩ := knots_sub (f := innerR st) (ns := akeys st.ran) (akeys st.ran) [] (fun k hk => by cases hk) (fun n hn => hn) k hk
    exact ⟨n, e⟩
  have nd : (akeys (keepM recs st).kept).Nodup := keep_nodup _ _ i.kp.nd
  have cas : ∀ p ∈ (keepM recs st).kept, (∃ k ∈ knotsR st, p.1 ∈ k ∧ p.2 = mkKt recs st k) ∨ ((∀ k ∈ knotsR st, p.1 ∉ k) ∧ p ∈ st.kept) := fun p hp => by
    have e := mem_alk nd hp
    by_cases c : ∃ k ∈ knotsR st, p.1 ∈ k
    · obtain ⟨k, hk, hs⟩ := c
      have e2 := (K p.1).1 k hk hs
      have e3 : alk (keepM recs st).kept p.1 = some (mkKt recs st k) := e2
      rw [e3] at e
      exact .inl ⟨k, hk, hs, (Option.some.inj e).symm⟩
    · have c' : ∀ b ∈ knotsR st, p.1 ∉ b := fun b hb w => c ⟨b, hb, w⟩
      have e2 : alk (keepM recs st).kept p.1 = alk st.kept p.1 := (K p.1).2 c'
      rw [e2] at e
      exact .inr ⟨c', alk_mem e⟩
  refine ⟨nd, fun p hp => ?_, fun p hp => ?_, fun p hp s hs => ?_⟩
  · rcases cas p hp with ⟨k, hk, _, e⟩ | ⟨_, h⟩
    · obtain ⟨n, rfl⟩ := of k hk
      rw [e]; exact mkKt_ok i
    · exact i.kp.ok p h
  · rcases cas p hp with ⟨k, hk, hs, e⟩ | ⟨_, h⟩
    · rw [e]
      show p.1 ∈ akeys (k.map fun s => (s, recOf recs s))
      rw [akeys_tab]; exact hs
    · exact i.kp.self p h
  · rcases cas p hp with ⟨k, hk, _, e⟩ | ⟨n, h⟩
    · rw [e] at hs ⊢
      have hs : s ∈ akeys (k.map fun s => (s, recOf recs s)) := hs
      rw [akeys_tab] at hs
      exact (K s).1 k hk hs
    · have e := i.kp.all p h s hs
      have sk := in_alk e
      have : ∀ k ∈ knotsR st, s ∉ k := fun k hk w => (i.rp s ((knots_bound st).2 k hk |>.2 s w)).2 sk
      rw [show alk (keepM recs st).kept s = alk st.kept s from (K s).2 this]
      exact e
theorem keep_so {st : Ak} (i : AkInv nums recs st) : StOk (keepM recs st) := by
  refine ⟨keep_ok i, fun p hp => (i.rn p hp).1, fun s hs => ?_⟩
  rcases (i.sk s hs).2 with h | h
  · exact .inl h
  · right
    have sep : ∀ a ∈ knotsR st, ∀ b ∈ knotsR st, ∀ s, s ∈ a → s ∈ b → a = b := fun a ha b hb s h1 h2 => knots_dis ha hb h1 h2
    have K := keep_at (recs := recs) (st := st) (knotsR st) st.kept sep s
    by_cases c : ∃ k ∈ knotsR st, s ∈ k
    · obtain ⟨k, hk, hk2⟩ := c
      exact in_alk (K.1 k hk hk2)
    · obtain ⟨x, e⟩ := alk_in h
      have e2 : alk (keepM recs st).kept s = alk st.kept s := K.2 fun b hb w => c ⟨b, hb, w⟩
      exact in_alk (e2.trans e)
end
end Aw

namespace Aw
open PySem L2
/-! ### a hall's ask -/
def ak0 (kept : AL Kt) : Ak := ⟨kept, [], [], [], [], []⟩
section
variable {nums : AL Int} {recs : AL T}
theorem ak0_inv {kept : AL Kt} (h : KeptOk kept) : AkInv nums recs (ak0 kept) where
  kp := h
  rd := List.nodup_nil
  pd := List.nodup_nil
  pr := fun s hs => by cases hs
  pv := fun i s v hi => by cases hi
  lk := rfl
  l0 := fun s => Int.le_refl 0
  rp := fun s hs => by cases hs
  rn := fun p hp => by cases hp
  sd := List.nodup_nil
  sk := fun s hs => by cases hs
  sg := fun s hs => by cases hs
  s1 := fun p hp => by cases hp
  cs := fun p hp => by cases hp
  lp := fun s hs => by cases hs
  rb := fun p hp => by cases hp
  rl := fun p hp => by cases hp
theorem unpl0 (kept : AL Kt) : unpl recs (ak0 kept) ≤ recs.length := by
  unfold unpl
  have h := List.length_filter_le (fun s => decide (s ∉ akeys (ak0 kept).place)) (akeys recs)
  unfold akeys at h ⊢
  rw [List.length_map] at h
  exact h
theorem pi0 (kept : AL Kt) (z : Str) : PI recs (phi recs (ak0 kept)) (fun _ => False) z (ak0 kept) := ⟨fun y hy => hy.elim, fun y hy => hy.elim, by show 0 + _ ≤ _; omega⟩
theorem unames_len (h : ∀ p ∈ recs, (named p.2).length ≤ 200) : (unames recs).length ≤ recs.length * 200 := by
  unfold unames
  induction recs with
  | nil => exact Nat.zero_le _
  | cons p r ih =>
    rw [List.map_cons, List.flatten_cons, List.length_append, List.length_cons, Nat.succ_mul]
    have h1 := h p List.mem_cons_self
    have h2 := ih fun q hq => h q (List.mem_cons_of_mem _ hq)
    omega
theorem phi_le0 (st : Ak) (h : ∀ p ∈ recs, (named p.2).length ≤ 200) (l : recs.length ≤ 20) : phi recs st ≤ 2500000 := by
  have h1 := unames_len h
  have h3 : ∀ s, phi1 recs st s ≤ 124001 := fun s => by
    have e : (unames recs).length ≤ 4000 := Nat.le_trans h1 (by omega)
    by_cases c : s ∈ akeys st.ran
    · have := phi1_le (recs := recs) st s c; omega
    · unfold phi1; rw [if_neg c]; omega
  have h4 : ∀ l : List Str, (l.map (phi1 recs st)).sum ≤ l.length * 124001 := by
    intro l
    induction l with
    | nil => exact Nat.zero_le _
    | cons a r ih =>
      rw [List.map_cons, List.sum_cons, List.length_cons, Nat.succ_mul]
      have := h3 a
      omega
  have h5 := h4 (akeys recs)
  unfold phi
  have h6 : (akeys recs).length = recs.length := by unfold akeys; rw [List.length_map]
  rw [h6] at h5
  exact Nat.le_trans h5 (by omega)
end
noncomputable def askSt (h : Hl) (z : Str) : Ak := beginM h.nums h.recs 10 (ak0 h.kept) z
/-- an ask: the answer, the hall behind -/
noncomputable def askM (h : Hl) (z : Str) : Int × Hl := if z ∉ akeys h.recs then (numOf h.nums z, h) else (stM h.nums h.recs (keepM h.recs (askSt h z)) z, { h with kept := (keepM h.recs (askSt h z)).kept, unt := h.unt ++ (askSt h z).ended })
theorem kept_len {nums : AL Int} {recs : AL T} {ex : Str → Prop} {st st' : Ak} (nd : (akeys st'.kept).Nodup) (e : EffX nums recs ex st st') : st'.kept.length ≤ st.kept.length := by
  have h := nodup_sub nd (u := akeys st.kept) fun s hs => by
    obtain ⟨k, ek⟩ := alk_in hs
    exact in_alk (e.kp s k ek)
  unfold akeys at h
  rw [List.length_map, List.length_map] at h
  exact h
end Aw

namespace Aw
open PySem L2
/-! ### where one sign stands in a text; a text parted at its first blank -/
def occStep (x sub : Str) (hi limit : Nat) (b : Array Nat × Nat) (i : Nat) : Array Nat × Nat :=
  if (decide (b.1.size < limit) && decide (b.2 ≤ i) && decide (i + sub.length ≤ hi) && Builtin.Str.subAt x sub i) = true then (b.1.push i, i + sub.length) else (b.1, b.2)
theorem occ_fold (x sub : Str) (hi limit : Nat) : Builtin.Str.occurrences x sub 0 hi limit = ((List.range (hi + 1)).foldl (occStep x sub hi limit) (#[], 0)).1.toList := by
  unfold Builtin.Str.occurrences
  have e : ∀ (l : List Nat) (b : Array Nat × Nat), (forIn (m := Id) l b fun i s =>
      if (decide (s.fst.size < limit) && decide (s.snd ≤ i) && decide (i + sub.length ≤ hi) && Builtin.Str.subAt x sub i) = true then pure (ForInStep.yield (s.fst.push i, i + sub.length)) else pure (ForInStep.yield (s.fst, s.snd))) = (l.foldl (occStep x sub hi limit) b : Array Nat × Nat) := by
    intro l
    induction l with
    | nil => intro b; rfl
    | cons a r ih =>
      intro b
      rw [List.forIn_cons, List.foldl_cons, ← ih]
      unfold occStep
      by_cases c : (decide (b.fst.size < limit) && decide (b.snd ≤ a) && decide (a + sub.length ≤ hi) && Builtin.Str.subAt x sub a) = true
      · rw [if_pos c, if_pos c]; rfl
      · rw [if_neg c, if_neg c]; rfl
  have e2 := e (List.range (hi + 1)) (#[], 0)
  show ((forIn (m := Id) [0:hi + 1] ((#[] : Array Nat), 0) fun i s =>
      if (decide (s.fst.size < limit) && decide (s.snd ≤ i) && decide (i + sub.length ≤ hi) && Builtin.Str.subAt x sub i) = true then pure (ForInStep.yield (s.fst.push i, i + sub.length)) else pure (ForInStep.yield (s.fst, s.snd))) : Array Nat × Nat).1.toList = _
  rw [Std.Legacy.Range.forIn_eq_forIn_range']
  have e3 : List.range' 0 (Std.Legacy.Range.size [0:hi + 1]) 1 = List.range (hi + 1) := by
    rw [List.range_eq_range']
    congr 1
    simp [Std.Legacy.Range.size]
  show ((forIn (m := Id) (List.range' 0 (Std.Legacy.Range.size [0:hi + 1]) 1) ((#[] : Array Nat), 0) fun i s =>
      if (decide (s.fst.size < limit) && decide (s.snd ≤ i) && decide (i + sub.length ≤ hi) && Builtin.Str.subAt x sub i) = true then pure (ForInStep.yield (s.fst.push i, i + sub.length)) else pure (ForInStep.yield (s.fst, s.snd))) : Array Nat × Nat).1.toList = _
  rw [e3, e2]
/-- a sub of one sign -/
theorem occ_go {x sub : Str} (h1 : sub.length = 1) {n limit : Nat} : ∀ (k lo : Nat) (b : Array Nat × Nat), b.2 ≤ lo → lo + k = n →
    ((List.range' lo k).foldl (occStep x sub n limit) b).1.toList = b.1.toList ++ ((List.range' lo k).filter fun i => Builtin.Str.subAt x sub i).take (limit - b.1.size)
  | 0, lo, b, _, _ => by simp
  | k + 1, lo, b, hb, hn => by
    rw [List.range'_succ, List.foldl_cons, List.filter_cons]
    unfold occStep
    rw [h1]
    by_cases c : Builtin.Str.subAt x sub lo = true
    · rw [if_pos c]
      by_cases c2 : b.1.size < limit
      · have e : (decide (b.1.size < limit) && decide (b.2 ≤ lo) && decide (lo + 1 ≤ n) && Builtin.Str.subAt x sub lo) = true := by
          rw [c, decide_eq_true c2, decide_eq_true hb, decide_eq_true (by omega)]; rfl
        rw [if_pos e]
        have ih := occ_go (x := x) (sub := sub) h1 (n := n) (limit := limit) k (lo + 1) (b.1.push lo, lo + 1) (Nat.le_refl _) (by omega)
        unfold occStep at ih
        rw [h1] at ih
        rw [ih, Array.toList_push]
        obtain ⟨j, hj⟩ : ∃ j, limit - b.1.size = j + 1 := ⟨limit - b.1.size - 1, by omega⟩
        rw [Array.size_push, hj, List.take_succ_cons, List.append_assoc, show limit - (b.1.size + 1) = j by omega]
        rfl
      · have e : ¬ (decide (b.1.size < limit) && decide (b.2 ≤ lo) && decide (lo + 1 ≤ n) && Builtin.Str.subAt x sub lo) = true := by
          rw [decide_eq_false c2]; simp
        rw [if_neg e]
        have ih := occ_go (x := x) (sub := sub) h1 (n := n) (limit := limit) k (lo + 1) b (by omega) (by omega)
        unfold occStep at ih
        rw [h1] at ih
        rw [show ((b.1, b.2) : Array Nat × Nat) = b from rfl, ih, show limit - b.1.size = 0 by omega, List.take_zero, List.take_zero]
    · rw [if_neg c]
      have e : ¬ (decide (b.1.size < limit) && decide (b.2 ≤ lo) && decide (lo + 1 ≤ n) && Builtin.Str.subAt x sub lo) = true := by
        rw [show Builtin.Str.subAt x sub lo = false from by simpa using c]; simp
      rw [if_neg e]
      have ih := occ_go (x := x) (sub := sub) h1 (n := n) (limit := limit) k (lo + 1) b (by omega) (by omega)
      unfold occStep at ih
      rw [h1] at ih
      rw [show ((b.1, b.2) : Array Nat × Nat) = b from rfl, ih]
theorem occ_one {x sub : Str} (h1 : sub.length = 1) (limit : Nat) : Builtin.Str.occurrences x sub 0 x.length limit = ((List.range x.length).filter fun i => Builtin.Str.subAt x sub i).take limit := by
  rw [occ_fold, List.range_succ, List.foldl_append]
  have h := occ_go (x := x) (sub := sub) h1 (n := x.length) (limit := limit) x.length 0 (#[], 0) (Nat.le_refl _) (by omega)
  rw [← List.range_eq_range'] at h
  show (occStep x sub x.length limit ((List.range x.length).foldl (occStep x sub x.length limit) (#[], 0)) x.length).1.toList = _
  have e : ∀ b : Array Nat × Nat, (occStep x sub x.length limit b x.length).1 = b.1 := fun b => by
    unfold occStep
    rw [if_neg]
    rw [h1, decide_eq_false (by omega : ¬ x.length + 1 ≤ x.length)]
    simp
  rw [e, h]
  rfl
theorem sub_at {x sub : Str} {c : Nat} (hs : sub.cps = #[c]) (i : Nat) : Builtin.Str.subAt x sub i = decide (x.cps.toList[i]? = some c) := by
  unfold Builtin.Str.subAt
  have hl : sub.length = 1 := by unfold Str.length; rw [hs]; rfl
  rw [hl, hs]
  have e : (x.cps.extract i (i + 1)).toList = (x.cps.toList.drop i).take 1 := by
    rw [Array.toList_extract, List.extract_eq_take_drop]
    congr 1
    omega
  rw [Bool.eq_iff_iff, decide_eq_true_eq, beq_iff_eq, ← Array.toList_inj, e]
  cases h : x.cps.toList[i]? with
  | none =>
    have : x.cps.toList.drop i = [] := List.drop_eq_nil_iff.mpr (List.getElem?_eq_none_iff.mp h)
    rw [this]
    simp
  | some y =>
    have hi := (List.getElem?_eq_some_iff.mp h)
    obtain ⟨hl, hy⟩ := hi
    rw [List.drop_eq_getElem_cons hl, hy]
    simp
/-- the places of one sign -/
theorem filt_pre {l : List Nat} {c : Nat} : ∀ (la lb : List Nat), c ∉ la → ((List.range (la ++ c :: lb).length).filter fun i => decide ((la ++ c :: lb)[i]? = some c)) = la.length :: (((List.range lb.length).filter fun i => decide (lb[i]? = some c)).map fun i => la.length + 1 + i)
  | la, lb, h => by
    have e1 : (la ++ c :: lb).length = la.length + (1 + lb.length) := by rw [List.length_append, List.length_cons]; omega
    rw [e1, List.range_add, List.filter_append]
    have e2 : ((List.range la.length).filter fun i => decide ((la ++ c :: lb)[i]? = some c)) = [] := by
      refine List.filter_eq_nil_iff.mpr fun i hi => ?_
      have hi := List.mem_range.mp hi
      rw [List.getElem?_append_left hi]
      simp only [decide_eq_true_eq]
      intro w
      exact h (List.mem_of_getElem? w)
    rw [e2, List.nil_append, List.range_add, List.map_append, List.filter_append]
    have e3 : ((List.map (fun i => la.length + i) (List.range 1)).filter fun i => decide ((la ++ c :: lb)[i]? = some c)) = [la.length] := by
      have : List.map (fun i => la.length + i) (List.range 1) = [la.length] := rfl
      rw [this, List.filter_cons, if_pos]
      · rfl
      · rw [List.getElem?_append_right (Nat.le_refl _), Nat.sub_self]; simp
    rw [e3]
    show la.length :: _ = la.length :: _
    congr 1
    rw [List.map_map, List.filter_map]
    have e4 : ((fun i => decide ((la ++ c :: lb)[i]? = some c)) ∘ ((fun i => la.length + i) ∘ fun i => 1 + i)) = fun i => decide (lb[i]? = some c) := by
      funext i
      show decide ((la ++ c :: lb)[la.length + (1 + i)]? = some c) = _
      rw [List.getElem?_append_right (by omega), show la.length + (1 + i) - la.length = i + 1 by omega, List.getElem?_cons_succ]
    rw [e4]
    refine List.map_congr_left fun i _ => ?_
    show la.length + (1 + i) = la.length + 1 + i
    omega
def bl1 : Str := " "
theorem bl_cps : (" " : Str).cps = #[32] := by decide +kernel
theorem strl_ext {a b : Str} (h : a.cps.toList = b.cps.toList) : a = b := by
  cases a; cases b
  have := Array.toList_inj.mp h
  rw [Str.mk.injEq]; exact this
theorem occ_bl {x : Str} (limit : Nat) : Builtin.Str.occurrences x " " 0 x.length limit = ((List.range x.cps.toList.length).filter fun i => decide (x.cps.toList[i]? = some 32)).take limit := by
  have hl : (" " : Str).length = 1 := by unfold Str.length; rw [bl_cps]; rfl
  rw [occ_one hl]
  have e : x.length = x.cps.toList.length := by unfold Str.length; rw [Array.length_toList]
  rw [e]
  congr 1
  refine List.filter_congr fun i _ => ?_
  rw [sub_at bl_cps]
theorem drop_one {a b : List Nat} {c : Nat} : (a ++ c :: b).drop (a.length + 1) = b := by
  rw [← List.drop_drop, List.drop_left]
  rfl
/-- parted at the first blank -/
theorem part_bl {x a b : Str} (h : x.cps.toList = a.cps.toList ++ 32 :: b.cps.toList) (n : 32 ∉ a.cps.toList) : Txt.partition x " " = (a, (" " : Str), b) := by
  have o := occ_bl (x := x) 1
  rw [h, filt_pre a.cps.toList b.cps.toList n (l := [])] at o
  unfold Txt.partition
  rw [o]
  have hl : (" " : Str).length = 1 := by unfold Str.length; rw [bl_cps]; rfl
  have e1 : Builtin.Str.strSub x 0 a.cps.toList.length = a := strl_ext (by
    unfold Builtin.Str.strSub
    rw [Array.toList_extract, List.extract_eq_take_drop, h]
    simp)
  have e2 : Builtin.Str.strSub x (a.cps.toList.length + 1) x.length = b := strl_ext (by
    unfold Builtin.Str.strSub
    have hx : x.length = x.cps.toList.length := by unfold Str.length; rw [Array.length_toList]
    rw [Array.toList_extract, List.extract_eq_take_drop, hx, h, drop_one]
    exact List.take_of_length_le (by rw [List.length_append, List.length_cons]; omega))
  show (Builtin.Str.strSub x 0 a.cps.toList.length, (" " : Str), Builtin.Str.strSub x (a.cps.toList.length + (" " : Str).length) x.length) = _
  rw [hl, e1, e2]
theorem part_no {x : Str} (n : 32 ∉ x.cps.toList) : Txt.partition x " " = (x, Str.empty, Str.empty) := by
  have o := occ_bl (x := x) 1
  have e : ((List.range x.cps.toList.length).filter fun i => decide (x.cps.toList[i]? = some 32)) = [] := by
    refine List.filter_eq_nil_iff.mpr fun i hi => ?_
    simp only [decide_eq_true_eq]
    intro w
    exact n (List.mem_of_getElem? w)
  rw [e] at o
  unfold Txt.partition
  rw [o]
  rfl
/-- the second word of a text with a blank on either side of it -/
theorem split_two {x a b c : Str} (h : x.cps.toList = a.cps.toList ++ 32 :: (b.cps.toList ++ 32 :: c.cps.toList)) (na : 32 ∉ a.cps.toList) (nb : 32 ∉ b.cps.toList) : ∃ r, Txt.split x " " = a :: b :: r := by
  have hl : (" " : Str).length = 1 := by unfold Str.length; rw [bl_cps]; rfl
  have hx : x.length = x.cps.toList.length := by unfold Str.length; rw [Array.length_toList]
  have o := occ_bl (x := x) (x.length + 1)
  have hb : ∃ lb, lb = b.cps.toList ++ 32 :: c.cps.toList := ⟨_, rfl⟩
  obtain ⟨lb, hlb⟩ := hb
  rw [h, ← hlb, filt_pre a.cps.toList lb na (l := []), hlb, filt_pre b.cps.toList c.cps.toList nb (l := [])] at o
  have len3 : x.cps.toList.length = a.cps.toList.length + (b.cps.toList.length + (c.cps.toList.length + 1) + 1) := by rw [h, List.length_append, List.length_cons, List.length_append, List.length_cons]
  obtain ⟨m, hm⟩ : ∃ m, x.length + 1 = m + 2 := ⟨x.length - 1, by omega⟩
  rw [hm, List.map_cons, List.take_succ_cons, List.take_succ_cons] at o
  unfold Txt.split
  have c1 : ¬ (decide (x.length < (" " : Str).length) || decide (Builtin.Str.strKind x < Builtin.Str.strKind " ")) = true := by
    have k1 : Builtin.Str.strKind " " = 1 := by decide +kernel
    have k2 : ¬ Builtin.Str.strKind x < 1 := by
      unfold Builtin.Str.strKind
      split
      · omega
      · split <;> omega
    rw [hl, k1, decide_eq_false (by omega : ¬ x.length < 1), decide_eq_false k2]
    simp
  rw [if_neg c1, hm, o, if_neg (by simp)]
  unfold Builtin.Str.partsBetween
  have e1 : Builtin.Str.strSub x 0 a.cps.toList.length = a := strl_ext (by
    unfold Builtin.Str.strSub
    rw [Array.toList_extract, List.extract_eq_take_drop, h]
    simp)
  have e2 : Builtin.Str.strSub x (a.cps.toList.length + 1) (a.cps.toList.length + 1 + b.cps.toList.length) = b := strl_ext (by
    unfold Builtin.Str.strSub
    rw [Array.toList_extract, List.extract_eq_take_drop, h, drop_one, show a.cps.toList.length + 1 + b.cps.toList.length - (a.cps.toList.length + 1) = b.cps.toList.length by omega]
    exact List.take_left)
  rw [hl]
  simp only [List.map_cons, List.cons_append, List.zip_cons_cons, e1, e2]
  exact ⟨_, rfl⟩
end Aw

namespace Aw
open PySem L2
/-- three words with a blank between each two -/
theorem split_three {x a b c : Str} (h : x.cps.toList = a.cps.toList ++ 32 :: (b.cps.toList ++ 32 :: c.cps.toList)) (na : 32 ∉ a.cps.toList) (nb : 32 ∉ b.cps.toList) (nc : 32 ∉ c.cps.toList) : Txt.split x " " = [a, b, c] := by
  have hl : (" " : Str).length = 1 := by unfold Str.length; rw [bl_cps]; rfl
  have hx : x.length = x.cps.toList.length := by unfold Str.length; rw [Array.length_toList]
  have o := occ_bl (x := x) (x.length + 1)
  obtain ⟨lb, hlb⟩ : ∃ lb, lb = b.cps.toList ++ 32 :: c.cps.toList := ⟨_, rfl⟩
  have nil : ((List.range c.cps.toList.length).filter fun i => decide (c.cps.toList[i]? = some 32)) = [] := by
    refine List.filter_eq_nil_iff.mpr fun i hi => ?_
    simp only [decide_eq_true_eq]
    intro w
    exact nc (List.mem_of_getElem? w)
  rw [h, ← hlb, filt_pre a.cps.toList lb na (l := []), hlb, filt_pre b.cps.toList c.cps.toList nb (l := []), nil] at o
  have len3 : x.cps.toList.length = a.cps.toList.length + (b.cps.toList.length + (c.cps.toList.length + 1) + 1) := by rw [h, List.length_append, List.length_cons, List.length_append, List.length_cons]
  obtain ⟨m, hm⟩ : ∃ m, x.length + 1 = m + 2 := ⟨x.length - 1, by omega⟩
  rw [hm, List.map_cons, List.take_succ_cons, List.take_succ_cons, List.map_nil, List.map_nil, List.take_nil] at o
  unfold Txt.split
  have c1 : ¬ (decide (x.length < (" " : Str).length) || decide (Builtin.Str.strKind x < Builtin.Str.strKind " ")) = true := by
    have k1 : Builtin.Str.strKind " " = 1 := by decide +kernel
    have k2 : ¬ Builtin.Str.strKind x < 1 := by
      unfold Builtin.Str.strKind
      split
      · omega
      · split <;> omega
    rw [hl, k1, decide_eq_false (by omega : ¬ x.length < 1), decide_eq_false k2]
    simp
  rw [if_neg c1, hm, o, if_neg (by simp)]
  unfold Builtin.Str.partsBetween
  have e1 : Builtin.Str.strSub x 0 a.cps.toList.length = a := strl_ext (by
    unfold Builtin.Str.strSub
    rw [Array.toList_extract, List.extract_eq_take_drop, h]
    simp)
  have e2 : Builtin.Str.strSub x (a.cps.toList.length + 1) (a.cps.toList.length + 1 + b.cps.toList.length) = b := strl_ext (by
    unfold Builtin.Str.strSub
    rw [Array.toList_extract, List.extract_eq_take_drop, h, drop_one, show a.cps.toList.length + 1 + b.cps.toList.length - (a.cps.toList.length + 1) = b.cps.toList.length by omega]
    exact List.take_left)
  have e3 : Builtin.Str.strSub x (a.cps.toList.length + 1 + b.cps.toList.length + 1) x.length = c := strl_ext (by
    unfold Builtin.Str.strSub
    rw [Array.toList_extract, List.extract_eq_take_drop, hx, h, show a.cps.toList.length + 1 + b.cps.toList.length + 1 = (a.cps.toList.length + 1) + (b.cps.toList.length + 1) by omega, ← List.drop_drop, drop_one, drop_one]
    exact List.take_of_length_le (by rw [List.length_append, List.length_cons, List.length_append, List.length_cons]; omega))
  rw [hl]
  simp only [List.map_cons, List.map_nil, List.cons_append, List.nil_append, List.zip_cons_cons, List.zip_nil_left, List.zip_nil_right, e1, e2]
  first
    | rw [e3]
    | (simp only [show a.cps.toList.length + (b.cps.toList.length + 1) + 1 = a.cps.toList.length + 1 + b.cps.toList.length + 1 by omega, e3])
end Aw

namespace Aw
open PySem L2
/-! ### dicts of numbers by names -/
theorem hits_int {A : Around} {s : Shared} {ls : List (Key × V)} {vb : List (Key × Value)} (rb : KV ls vb) : ∀ {ks : List (Key × V)} {va : List (Key × Value)}, KV ks va → (∀ p ∈ ks, ∃ i j : Int, p.2 = .int i ∧ valV ls p.1 = some (.int j)) →
    PySem.W.KeqHits A s vb va (ks.all fun p => decide (valV ls p.1 = some p.2)) := by
  intro ks va ra
  unfold KV at ra
  induction ra with
  | nil => intro _; exact .nil
  | @cons p q ps qs h t ih =>
    intro hp
    obtain ⟨h1, h2⟩ := h
    obtain ⟨i, j, e, f⟩ := hp p List.mem_cons_self
    have rr : RelO (some (.int j)) (valueAt vb p.1) := by rw [← f]; exact rb.val p.1
    obtain ⟨y, hy, ry⟩ := rr.some_of
    obtain ⟨k, v⟩ := q
    have h1' : p.1 = k := h1
    rw [h1'] at hy
    rw [e] at h2
    obtain ⟨t1, rfl⟩ := (show ∃ t, v = Value.int i t from h2)
    obtain ⟨t2, rfl⟩ := (show ∃ t, y = Value.int j t from ry)
    rw [List.all_cons]
    have ee : decide (valV ls p.1 = some p.2) = decide (i = j) := by
      rw [f, e]
      by_cases c : i = j
      · subst c; rw [decide_eq_true rfl, decide_eq_true rfl]
      · rw [decide_eq_false (fun z => c (V.int.inj (Option.some.inj z)).symm), decide_eq_false c]
    rw [ee]
    exact .hit hy (PySem.SeqAt.EqAt.int_int i t1 j t2) (ih fun p' hm => hp p' (List.mem_cons_of_mem _ hm))
section
variable {X : Cx}
def rNeDI : R2 := fun x y H Q => ∃ a b ks ls, x = .ref a ∧ y = .ref b ∧ H a = some (.dK ks) ∧ H b = some (.dK ls) ∧ ks.length = ls.length ∧ (∀ p ∈ ks, ∃ i j : Int, p.2 = .int i ∧ valV ls p.1 = some (.int j)) ∧ Q (.bl (!(ks.all fun p => decide (valV ls p.1 = some p.2)))) H
theorem op_ne_dictI (hu : X.A.units < cLine) : OpR X (compareOp .NotEq) rNeDI := by
  intro pins s σ H x y v u Q I rx ry h
  obtain ⟨a, b, ks, ls, rfl, rfl, ea, eb, hlen, hp, q⟩ := h
  obtain rfl : v = Value.ref a := rx
  obtain rfl : u = Value.ref b := ry
  obtain ⟨_, ya, va, ra, da⟩ := (show ObjOk X.prog X.w H s.heap a (.dK ks) from I.hok a _ ea)
  obtain ⟨_, yb, vb, rb, db⟩ := (show ObjOk X.prog X.w H s.heap b (.dK ls) from I.hok b _ eb)
  have hl : va.length = vb.length := by rw [← ra.length, ← rb.length]; exact hlen
  exact PySem.W.keq_ne (knd := mixKind X.prog X.w) ya yb da db hu (fun _ => hits_int rb ra hp) (fin_bl I q (by simp [hl]))
end
def num (kvs : List (Key × V)) (s : Str) : Int := match valV kvs (Sum.inr s) with
  | some (.int v) => v
  | _ => 0
/-- names with numbers from 0 to 30, each once -/
structure SD (kvs : List (Key × V)) : Prop where
  nd : (kvs.map (·.1)).Nodup
  ok : ∀ p ∈ kvs, ∃ (s : Str) (i : Int), p = (Sum.inr s, .int i) ∧ 0 ≤ i ∧ i ≤ 30
theorem valV_mem {κ : Type} [DecidableEq κ] {k : κ} {v : V} : ∀ {kvs : List (κ × V)}, valV kvs k = some v → (k, v) ∈ kvs
  | [], h => by cases h
  | p :: r, h => by
    by_cases e : p.1 = k
    · rw [valV_pos e] at h
      cases h
      rw [← e]
      exact List.mem_cons_self
    · rw [valV_neg e] at h
      exact List.mem_cons_of_mem _ (valV_mem h)
theorem mem_valV {κ : Type} [DecidableEq κ] {p : κ × V} : ∀ {kvs : List (κ × V)}, (kvs.map (·.1)).Nodup → p ∈ kvs → valV kvs p.1 = some p.2
  | q :: r, nd, h => by
    rw [List.map_cons, List.nodup_cons] at nd
    rcases List.mem_cons.mp h with e | e
    · rw [e]; exact valV_pos rfl
    · rw [valV_neg (fun z => nd.1 (by rw [z]; exact List.mem_map_of_mem e))]
      exact mem_valV nd.2 e
theorem SD.rng {kvs : List (Key × V)} (d : SD kvs) (s : Str) : 0 ≤ num kvs s ∧ num kvs s ≤ 30 := by
  unfold num
  split
  · next v e =>
    obtain ⟨s', i, e', h0, h1⟩ := d.ok _ (valV_mem e)
    cases e'
    exact ⟨h0, h1⟩
  · exact ⟨Int.le_refl 0, by decide⟩
theorem SD.val {kvs : List (Key × V)} (d : SD kvs) {s : Str} {v : V} (e : valV kvs (Sum.inr s) = some v) : v = .int (num kvs s) := by
  obtain ⟨s', i, e', _, _⟩ := d.ok _ (valV_mem e)
  cases e'
  unfold num
  rw [e]
theorem num_get {kvs : List (Key × V)} (d : SD kvs) (s : Str) : (valV kvs (Sum.inr s)).getD (.int 0) = .int (num kvs s) := by
  cases e : valV kvs (Sum.inr s) with
  | none =>
    unfold num
    rw [e]
    rfl
  | some v => rw [d.val e]; rfl
theorem num_put (kvs : List (Key × V)) (s : Str) (v : Int) : num (putK kvs (Sum.inr s) (.int v)) = put1 (num kvs) s v := by
  funext z
  unfold num put1
  rw [valV_put]
  by_cases c : z = s
  · subst c
    rw [if_pos rfl, if_pos rfl]
  · rw [if_neg (fun e => c (Sum.inr.inj e)), if_neg c]
theorem keys_put {kvs : List (Key × V)} {k : Key} {v : V} (h : (valV kvs k).isSome = true) : (putK kvs k v).map (·.1) = kvs.map (·.1) := by
  unfold putK
  rw [valV_any, if_pos h, List.map_map]
  congr 1
  funext p
  simp only [Function.comp]
  split <;> rfl
theorem SD.put {kvs : List (Key × V)} (d : SD kvs) {s : Str} {v : Int} (h : (valV kvs (Sum.inr s)).isSome = true) (h0 : 0 ≤ v) (h1 : v ≤ 30) : SD (putK kvs (Sum.inr s) (.int v)) := by
  refine ⟨by rw [keys_put h]; exact d.nd, fun p hp => ?_⟩
  unfold putK at hp
  rw [valV_any, if_pos h] at hp
  obtain ⟨q, hq, e⟩ := List.mem_map.mp hp
  by_cases c : q.1 = Sum.inr s
  · rw [if_pos c, c] at e
    exact ⟨s, v, e.symm, h0, h1⟩
  · rw [if_neg c] at e
    rw [← e]
    exact d.ok q hq
def rndK (rc : Str → T) : List Str → List (Key × V) → List (Key × V)
  | [], k => k
  | s :: r, k => rndK rc r (putK k (Sum.inr s) (.int (ev (num k) (rc s))))
theorem num_rnd (rc : Str → T) : ∀ (l : List Str) (k : List (Key × V)), num (rndK rc l k) = rnd rc l (num k)
  | [], k => rfl
  | s :: r, k => by
    show num (rndK rc r _) = rnd rc r _
    rw [num_rnd rc r, num_put]
theorem rndK_snoc (rc : Str → T) : ∀ (l : List Str) (s : Str) (k : List (Key × V)), rndK rc (l ++ [s]) k = putK (rndK rc l k) (Sum.inr s) (.int (ev (num (rndK rc l k)) (rc s)))
  | [], s, k => rfl
  | a :: r, s, k => rndK_snoc rc r s _
theorem rndK_ok {rc : Str → T} : ∀ {l : List Str} {k : List (Key × V)}, SD k → (∀ s ∈ l, WF (rc s)) → (∀ s ∈ l, (valV k (Sum.inr s)).isSome = true) → SD (rndK rc l k) ∧ (rndK rc l k).map (·.1) = k.map (·.1)
  | [], k, d, _, _ => ⟨d, rfl⟩
  | s :: r, k, d, w, h => by
    have hs := h s List.mem_cons_self
    obtain ⟨v0, v1⟩ := ev_rng d.rng (w s List.mem_cons_self)
    obtain ⟨a, b⟩ := rndK_ok (rc := rc) (l := r) (d.put hs v0 v1) (fun z hz => w z (List.mem_cons_of_mem _ hz)) (fun z hz => by
      rw [valV_put]
      split
      · rfl
      · exact h z (List.mem_cons_of_mem _ hz))
    exact ⟨a, b.trans (keys_put hs)⟩
theorem key_some {kvs : List (Key × V)} {k : Key} : (valV kvs k).isSome = true ↔ k ∈ kvs.map (·.1) := by
  constructor
  · intro h
    cases e : valV kvs k with
    | none => rw [e] at h; cases h
    | some v => exact List.mem_map.mpr ⟨_, valV_mem e, rfl⟩
  · intro h
    obtain ⟨p, hp, e⟩ := List.mem_map.mp h
    rw [← e, ← valV_any]
    exact List.any_eq_true.mpr ⟨p, hp, decide_eq_true rfl⟩
/-- two such dicts of the same names compared -/
theorem all_same {ks ls : List (Key × V)} (a : SD ks) (b : SD ls) (hk : ks.map (·.1) = ls.map (·.1)) :
    ks.length = ls.length ∧ (∀ p ∈ ks, ∃ i j : Int, p.2 = .int i ∧ valV ls p.1 = some (.int j)) ∧ ((ks.all fun p => decide (valV ls p.1 = some p.2)) = true → ∀ z, num ks z = num ls z) ∧ ((ks.all fun p => decide (valV ls p.1 = some p.2)) = false → ∃ z, num ks z ≠ num ls z) := by
  have hin : ∀ p ∈ ks, ∃ i j : Int, p.2 = .int i ∧ valV ls p.1 = some (.int j) := fun p hp => by
    obtain ⟨s, i, e, _, _⟩ := a.ok p hp
    subst e
    have hm : (Sum.inr s : Key) ∈ ls.map (·.1) := by rw [← hk]; exact List.mem_map_of_mem hp
    obtain ⟨v, hv⟩ := Option.isSome_iff_exists.mp (key_some.mpr hm)
    obtain ⟨s', j, e', _, _⟩ := b.ok _ (valV_mem hv)
    cases e'
    exact ⟨i, j, rfl, hv⟩
  refine ⟨by have := congrArg List.length hk; simpa using this, hin, fun h z => ?_, fun h => ?_⟩
  · cases e : valV ks (Sum.inr z) with
    | some v =>
      have hv := a.val e
      subst hv
      have q := of_decide_eq_true (List.all_eq_true.mp h _ (valV_mem e))
      have := b.val q
      exact V.int.inj this
    | none =>
      have e2 : valV ls (Sum.inr z) = none := by
        cases e2 : valV ls (Sum.inr z) with
        | none => rfl
        | some v =>
          have : (Sum.inr z : Key) ∈ ks.map (·.1) := by rw [hk]; exact key_some.mp (by rw [e2]; rfl)
          have := key_some.mpr this
          rw [e] at this
          cases this
      unfold num
      rw [e, e2]
  · obtain ⟨p, hp, hn⟩ := List.all_eq_false.mp h
    obtain ⟨s, i, e, _, _⟩ := a.ok p hp
    subst e
    have h1 := mem_valV a.nd hp
    refine ⟨s, fun z => hn (decide_eq_true ?_)⟩
    obtain ⟨i', j, e1, e2⟩ := hin _ hp
    have h3 := b.val e2
    have h4 := a.val h1
    show valV ls (Sum.inr s) = some (.int i)
    rw [e2, h3, ← z]
    exact congrArg some h4.symm
end Aw

namespace Aw
open PySem L2 PySem.Spec PyProof.Rows
section
variable {X : Cx}
/-- a dict comprehension over one walk, given to a local name of the def -/
theorem ps_setDc {j : Nat} {z : Str} {pz p pst : Pos} {ke ve tgt it : Expr} {cs : List Expr} {sc : Scope} {ow : List (Str × Nat)} {wt : TI} {gt : TG} {ct : TT} {kt vt : TE} (cm : X.calm = true) (ndN : X.N.Nodup) (zj : X.N[j]? = some z) (zl : X.env.scope.names.lookup z = some .local)
    (sw : swapsWith (.DictComp ke ve [⟨tgt, it, cs, 0⟩] sc p) (some (.Name z pz)) pst.line X.env = pure true) (pit : L2.PI X tgt it wt) (bo : BlkOk X.N X.env.scope sc ow)
    (pg : ∀ s H C cl fp, PG (X.blk s H sc (compEnvC sc cl C X.env) fp) tgt gt) (pt : ∀ s H C cl fp, PTs (X.blk s H sc (compEnvC sc cl C X.env) fp) cs ct)
    (pk : ∀ s H C cl fp, PE (X.blk s H sc (compEnvC sc cl C X.env) fp) ke kt) (pv : ∀ s H C cl fp, PE (X.blk s H sc (compEnvC sc cl C X.env) fp) ve vt) (nf : ∀ x, foldedSetIterable it X.env x = pure x := by intro _; rfl) :
    PS X (.Assign [.Name z pz] (.DictComp ke ve [⟨tgt, it, cs, 0⟩] sc p) pst) (tAsg (tDc wt gt ct kt vt (ow.map (·.2))) (gName j)) := by
  refine ⟨fun pn s0 st H0 En J hd => ?_⟩
  have hd' : tDc wt gt ct kt vt (ow.map (·.2)) st H0 (fun x H1 => gName j x st H1 En.nx) := hd
  rw [PySem.exec_Assign_Name_used _ _ _ _ sw]
  refine wpAny_bind (wpAny_standAt (wpAny_bind ?_))
  refine wpAny_bind (thn (dc_core (use := some (assign (.Name z pz) X.env)) (Qf := fun _ s' => SP X pn En .next s') (pos' := firstIterPos [⟨tgt, it, cs, 0⟩] p) cm ndN J pit bo pg pt pk pv nf hd' fun L C s1 m H1 J1 q1 hn fo => ?_) fun _ s2 hq => wpAny_pure (wpAny_pure hq))
  show wpAny _ _ (assign (.Name z pz) X.env (.ref L)) _ _ _
  refine wpAny_assign_Name (store_ok2 (v := V.ref L) J1 ndN zj (.inl zl) rfl (fun s2 J2 ⟨a, sb, ha⟩ => ?_) (.inr zl))
  obtain ⟨g0, g1, g2, g3, g4, g5⟩ := fo
  refine ⟨m, hn.sameBut sb (by rcases ha with e | e; (rw [e]; exact g1); exact fun w => g4 z a e w.symm), fun h3 sb3 => ⟨_, H1, J2.turned (t' := s2.toks) (fun b o hb e => (sb3.2 b hb).trans e) g0 g1 g3 g4 g5, q1⟩⟩
theorem sw_dict {ke ve : Expr} {gs : List Comprehension} {sc : Scope} {p pz : Pos} {z : Str} {l : Nat} {env : Env} (k : env.scope.kind = .function) (zl : env.scope.names.lookup z = some .local) (ln : (pz.line == p.line) = true)
    (own : (sc.names.any fun (n, k) => n == z && (k == .local || k == .cell)) = false) : swapsWith (.DictComp ke ve gs sc p) (some (.Name z pz)) l env = pure true := by
  have a1 : env.kindOf z = some .local := zl
  have a2 : env.blockKind = .function := by rw [Env.blockKind, k]; rfl
  simp only [swapsWith, a2, a1, own, Expr.pos, ln]
  rfl
end
end Aw

namespace Aw
open PySem L2
/-- a new thing that a walk goes through: from its making on it is read alone -/
def tFrz (td : TE) : TE := fun σ H Q => td σ H fun x H1 => ∃ d u, x = .ref d ∧ H1 d = some u ∧ Mut (some u) ∧ ∀ od, Q x (upd H1 d (.frz od u))
theorem pe_frz {X : Cx} {e : Expr} {td : TE} (h : PE X e td) : PE X e (tFrz td) := ⟨fun pins s σ H Q I hh => PySem.wpAny_mono (h.run pins s σ H _ I hh) (fun u s1 ⟨v, H1, I1, rv, d, u1, ev, ed, m, q⟩ => by
    obtain ⟨od, I2⟩ := I1.lock ed m
    exact ⟨v, _, I2, rv, q od⟩) fun _ _ h => h⟩
end Aw

namespace Aw
open PySem L2 PySem.Spec PyProof.Rows
/-! ### except clauses, each with a name or without: what a list of them wishes is told clause by clause -/
/-- an exception that has come down to the clauses of X -/
structure Down (X : Cx) (pins : List (Addr × Obj)) (a : Addr) (B : Heap) (sI s : Shared) (h : Heap) (σ : L2.St) (H : Hp) (cls : Value) (d : Option Addr) : Prop where
  hs : X.stack = X.env :: X.outer
  hf : X.env.frame = some X.env.locals
  inv : Inv X pins σ H sI
  nb : ∀ b o, sI.heap.get? b = some o → b ∉ frs X.stack → B.get? b = some o
  up : sI.heap.UpToSlots h
  fl : HandSPX.FlyingZ B (X.env :: X.outer) a (Zc cls d) h
  na : H a = none
  os : s.os = sI.os
  ag : AllBare s.gens
section
variable {X : Cx} {pins : List (Addr × Obj)} {a : Addr} {B : Heap} {sI s : Shared} {h : Heap} {σ : L2.St} {H : Hp} {cls : Value} {d : Option Addr}
theorem Down.off (D : Down X pins a B sI s h σ H cls d) : a ≠ X.env.locals ∧ a ∉ X.fs := by
  obtain ⟨oe, vs, he, hz, hd⟩ := D.fl.there
  have key : a ∉ frs (X.env :: X.outer) := fun hm => by
    obtain ⟨_, o', e', n⟩ := D.fl.2.2.1.mem hm
    rw [he] at e'
    cases e'
    exact n _ hd
  refine ⟨fun z => key (List.mem_filterMap.mpr ⟨X.env, List.mem_cons_self, by rw [D.hf, z]⟩), fun hm => ?_⟩
  obtain ⟨e, he', q⟩ := List.mem_filterMap.mp hm
  exact key (List.mem_filterMap.mpr ⟨e, List.mem_cons_of_mem _ he', q⟩)
theorem Down.now (D : Down X pins a B sI s h σ H cls d) : Inv X pins σ H { s with heap := h } := D.inv.landed D.nb D.fl.1 D.up D.os D.ag
theorem Down.suite (D : Down X pins a B sI s h σ H cls d) : ∃ oe, Zc cls d oe ∧ (∃ vs, oe.data = .fields vs) ∧ h.get? a = some oe ∧ Inv (X.suite a ((a, oe) :: (X.pn ++ pins))) [] σ H { s with heap := h } := by
  obtain ⟨oe, vs, he, hz, hd⟩ := D.fl.there
  exact ⟨oe, hz, ⟨_, hd⟩, he, D.now.suite he hd D.na D.off.1 D.off.2⟩
end
abbrev WL := WX → Ends → WX
/-- a list of clauses does as W wishes -/
structure ClOk (X : Cx) (hds : List ExceptHandler) (W : WL) : Prop where
  run : ∀ {Wout : WX} (tk : Takes X Wout) {pins : List (Addr × Obj)} {a : Addr} {B : Heap} {sI s : Shared} {h : Heap} {σ : L2.St} {H : Hp} {cls : Value} {d : Option Addr} {D : Ends},
  Down X pins a B sI s h σ H cls d → W Wout D cls d σ H → wpAny (model X.prog X.w) X.A (handleBy (.ref a) X.env hds) (SP X pins D) X.xe { s with heap := h }
def wNil : WL := fun Wout _ => Wout
def wCl (K : PySem.W.Frag) (c : Value) (ts : Addr → Value → Option Addr → TS) (R : WL) : WL := fun Wout D cls d σ H => ∃ b, PySem.W.exmOne K cls c = some b ∧ (b = true → ∀ a, H a = none → ts a cls d D σ H) ∧ (b = false → R Wout D cls d σ H)
def wClAs (K : PySem.W.Frag) (c : Value) (i : Nat) (ts : Addr → Value → Option Addr → TS) (R : WL) : WL := fun Wout D cls d σ H => ∃ b, PySem.W.exmOne K cls c = some b ∧
  (b = true → ∀ a, H a = none → ts a cls d { nx := fun σ' H' => D.nx (σ'.set i none) H', rt := D.rt, bk := fun σ' H' => D.bk (σ'.set i none) H', ct := fun σ' H' => D.ct (σ'.set i none) H' } (σ.set i (some (.ref a))) H) ∧ (b = false → R Wout D cls d σ H)
section
variable {X : Cx}
theorem cl_nil : ClOk X [] wNil := by
  refine ⟨?_⟩
  intro Wout tk pins a B sI s h σ H cls d D dn w
  refine wpAny_handleBy_nil ?_
  obtain ⟨k1, k2, k3, oe, vs, T, oT, ts, he, hz, hd, h1, hr⟩ := id dn.fl
  unfold PySem.passOn
  refine wpAny_bind (wpAny_field he hd h1 ?_)
  rw [if_neg (show ¬ ((Value.ref T == Value.none) = true) from by simp)]
  have fin : wpAny (model X.prog X.w) X.A (setFlight (.ref a) X.env.frame) (fun _ s4 => wpAny (model X.prog X.w) X.A (throw (.ref a) : Sem Flow) (SP X pins D) X.xe s4) X.xe { s with heap := h } := by
    rw [dn.hf]
    exact HandSPX.setFlight_upZ dn.fl fun h4 hh4 up4 => wpAny_throw (tk _ _ ⟨a, B, sI, pins, σ, H, cls, d, rfl, dn.inv, dn.nb, dn.up.trans up4, .inr (.inr (by rw [dn.hs]; exact hh4)), dn.na, dn.os, dn.ag, w⟩)
  first
    | exact wpAny_bind (wpAny_pure (wpAny_bind fin))
    | exact wpAny_bind fin
/-- the test of a clause -/
theorem cl_test {x : Str} {c : Value} {np : Pos} (hc : Names X x c) {pins : List (Addr × Obj)} {a : Addr} {B : Heap} {sI s : Shared} {h : Heap} {σ : L2.St} {H : Hp} {cls : Value} {d : Option Addr} (dn : Down X pins a B sI s h σ H cls d)
    {Q E : Value → Shared → Prop} (q : Q c { s with heap := h }) : wpAny (model X.prog X.w) (X.A.mark (some (.ref a))) (eval (.Name x np) X.env) Q E { s with heap := h } := by
  obtain ⟨oe, hz, hd, he, S⟩ := dn.suite
  obtain ⟨hg, hdbg, hm | ⟨hm, hv, hnn⟩⟩ := hc
  · exact ld_glob (X := X.suite a ((a, oe) :: (X.pn ++ pins))) S hg hm q hdbg
  · exact ld_blt (X := X.suite a ((a, oe) :: (X.pn ++ pins))) S hg hm hv q hnn hdbg
section
variable {x n : Str} {c : Value} {i : Nat} {suite : List Stmt} {b₀ : Stmt} {np pos' : Pos} {ts : Addr → Value → Option Addr → TS} {hds : List ExceptHandler} {R : WL}
theorem cl_one (hc : Names X x c) (hsu : ∀ (a : Addr) (oe : Obj) (cls : Value) (d : Option Addr) (pn : List (Addr × Obj)), Zc cls d oe → (∃ vs, oe.data = .fields vs) → PSs (X.suite a ((a, oe) :: pn)) (b₀ :: suite) (ts a cls d)) (r : ClOk X hds R) :
    ClOk X (.ExceptHandler (some (.Name x np)) none (b₀ :: suite) pos' :: hds) (wCl X.K c ts R) := by
  refine ⟨?_⟩
  intro Wout tk pins a B sI s h σ H cls d D dn ⟨b, hb, hyes, hno⟩
  obtain ⟨oe, hz, hd, he, S⟩ := dn.suite
  refine wpAny_handleBy_cons (codeAny_handlers_test ?_) (by intro q; cases q)
  have LT : PySem.W.Looks (model X.prog X.w) h (typeOf (.ref a)) cls := fun A Q E s k q => wpAny_typeOf_ref (k _ _ he) (by rw [hz.1]; exact q)
  have LM := PySem.W.exm_one (M := model X.prog X.w) dn.now.kIn LT hb
  refine cl_test hc dn (LM.here ?_)
  cases b with
  | false => exact r.run tk dn (hno rfl)
  | true =>
    refine codeAny_handlers_suite (HandSPX.lands_againZ dn.fl fun h4 fl4 up4 => ?_)
    have dn4 : Down X pins a B sI s h4 σ H cls d := ⟨dn.hs, dn.hf, dn.inv, dn.nb, dn.up.trans up4, fl4, dn.na, dn.os, dn.ag⟩
    obtain ⟨oe4, hz4, hd4, he4, S4⟩ := dn4.suite
    refine wpAny_mono ((hsu a oe4 cls d (X.pn ++ pins) hz4 hd4).run [] _ _ H _ S4 (hyes rfl a dn.na)) (fun f s6 hsp => ?_) (fun _ _ z => False.elim z)
    cases f with
    | next => exact hsp.elim fun _ z => z.elim fun _ z => ⟨_, _, z.1.unsuite dn.inv.ok, z.2⟩
    | brk => exact hsp.elim fun _ z => z.elim fun _ z => ⟨_, _, z.1.unsuite dn.inv.ok, z.2⟩
    | cont => exact hsp.elim fun _ z => z.elim fun _ z => ⟨_, _, z.1.unsuite dn.inv.ok, z.2⟩
    | ret u => exact hsp.elim fun _ z => z.elim fun _ z => z.elim fun _ z => ⟨_, _, _, z.1.unsuite dn.inv.ok, z.2⟩
theorem cl_as (hN : X.N.Nodup) (hi : X.N[i]? = some n) (hln : X.env.kindOf n = some .local) (hc : Names X x c)
    (hsu : ∀ (a : Addr) (oe : Obj) (cls : Value) (d : Option Addr) (pn : List (Addr × Obj)), Zc cls d oe → (∃ vs, oe.data = .fields vs) → PSs (X.suite a ((a, oe) :: pn)) (b₀ :: suite) (ts a cls d)) (r : ClOk X hds R) :
    ClOk X (.ExceptHandler (some (.Name x np)) (some n) (b₀ :: suite) pos' :: hds) (wClAs X.K c i ts R) := by
  refine ⟨?_⟩
  intro Wout tk pins a B sI s h σ H cls d D dn ⟨b, hb, hyes, hno⟩
  obtain ⟨oe, hz, hd, he, S⟩ := dn.suite
  refine wpAny_handleBy_cons (codeAny_handlers_test ?_) (by intro q; cases q)
  have LT : PySem.W.Looks (model X.prog X.w) h (typeOf (.ref a)) cls := fun A Q E s k q => wpAny_typeOf_ref (k _ _ he) (by rw [hz.1]; exact q)
  have LM := PySem.W.exm_one (M := model X.prog X.w) dn.now.kIn LT hb
  refine cl_test hc dn (LM.here ?_)
  cases b with
  | false => exact r.run tk dn (hno rfl)
  | true =>
    refine codeAny_handlers_suite_as (HandSPX.lands_againZ dn.fl fun h4 fl4 up4 => ?_)
    have dn4 : Down X pins a B sI s h4 σ H cls d := ⟨dn.hs, dn.hf, dn.inv, dn.nb, dn.up.trans up4, fl4, dn.na, dn.os, dn.ag⟩
    obtain ⟨oe4, hz4, hd4, he4, S4⟩ := dn4.suite
    refine store_ok (X := X.suite a ((a, oe4) :: (X.pn ++ pins))) (v := .ref a) S4 hN hi (.inl hln) rfl (fun s5 S5 => ?_) (.inr hln)
    refine wpAny_mono ((hsu a oe4 cls d (X.pn ++ pins) hz4 hd4).run [] s5 _ H _ S5 (hyes rfl a dn.na)) (fun f s6 hsp => ?_) (fun _ _ z => False.elim z)
    have gone : ∀ {σ6 : L2.St} {H6 : Hp} {Q : Shared → Prop}, Inv (X.suite a ((a, oe4) :: (X.pn ++ pins))) [] σ6 H6 s6 → (∀ s7, Inv X pins (σ6.set i none) H6 s7 → Q s7) →
        wpAny (model X.prog X.w) X.A (do bindName X.env n .none; unbindBehindTheSuite X.env n pos') (fun _ s7 => Q s7) X.xe s6 := fun {σ6 H6 Q} S6 hq => gone_ok (S6.unsuite dn.inv.ok) hN hi hln hq
    cases f with
    | next => exact hsp.elim fun _ z => z.elim fun _ z => gone z.1 fun s7 J7 => ⟨_, _, J7, z.2⟩
    | brk => exact hsp.elim fun _ z => z.elim fun _ z => gone z.1 fun s7 J7 => ⟨_, _, J7, z.2⟩
    | cont => exact hsp.elim fun _ z => z.elim fun _ z => gone z.1 fun s7 J7 => ⟨_, _, J7, z.2⟩
    | ret u => exact hsp.elim fun _ z => z.elim fun _ z => z.elim fun _ z => gone z.1 fun s7 J7 => ⟨_, _, _, J7, z.2⟩
end
theorem ps_try_cl {body : List Stmt} {h₀ : ExceptHandler} {hds : List ExceptHandler} {W : WL} {pos : Pos} {tb : WX → TS} {Wout : WX} (hs : X.stack = X.env :: X.outer) (hf : X.env.frame = some X.env.locals) (tk : Takes X Wout)
    (hb : ∀ (W : WX) (pn : List (Addr × Obj)) (xe : Value → Shared → Prop), Takes (X.tr pn xe) W → PassesOwn (model X.prog X.w) X.A X.env xe → PSs (X.tr pn xe) body (tb W)) (hh : ClOk X (h₀ :: hds) W) :
    PS X (.Try body (h₀ :: hds) [] [] pos) (fun D σ H => tb (W Wout D) D σ H) := by
  refine ⟨fun pins s σ H D I h => wpAny_Try_except ?_⟩
  have hfr : X.A.frames = some (X.env :: X.outer) := by rw [I.ok.frames, hs]
  refine wpAny_mono ((hb (W Wout D) (X.pn ++ pins) (fun e s₁ => wpAny (model X.prog X.w) X.A (noteFrame e X.env) (fun _ s₂ => wpAny (model X.prog X.w) X.A (setFlight e none) (fun _ s₃ =>
    wpAny (model X.prog X.w) X.A (handleBy e X.env (h₀ :: hds)) (SP X pins D) X.xe s₃) X.xe s₂) X.xe s₁) (fun u s' xx => ?_) PassesOwn.looking).run [] s σ H D (I.toTry _) h) (fun f s1 hsp => ?_) (fun e s1 he => he)
  · obtain ⟨a, B, sI, pins', σ', H', cls, d, rfl, J', nb, up, sky, na, os, ag, w⟩ := xx
    refine Sky.land Zc.steady hfr hf (by rw [← hs]; exact sky) fun h3 fl3 up3 => ?_
    exact hh.run tk ⟨hs, hf, J'.ofTry I.ok, nb, up.trans up3, fl3, na, os, ag⟩ w
  · cases f with
    | next => exact hsp.elim fun _ z => z.elim fun _ z => wpAny_execs_nil ⟨_, _, z.1.ofTry I.ok, z.2⟩
    | brk => exact hsp.elim fun _ z => z.elim fun _ z => ⟨_, _, z.1.ofTry I.ok, z.2⟩
    | cont => exact hsp.elim fun _ z => z.elim fun _ z => ⟨_, _, z.1.ofTry I.ok, z.2⟩
    | ret u => exact hsp.elim fun _ z => z.elim fun _ z => z.elim fun _ z => ⟨_, _, _, z.1.ofTry I.ok, z.2⟩
end
end Aw

namespace Aw
open PySem L2 PyProof.Rows
/-! ### methods asked within a try -/
def tMX (C : Addr) (m : Str) (sp : Sp) (W : L2.St → XK) (to : TE) (ta : L2.TA) : TE := fun σ H Q => to σ H fun o G => ∃ p dx fs, o = .ref p ∧ G p = some (.ins C dx fs) ∧ fs.lookup m = none ∧ ta σ G fun ws G' => sp (o :: ws) G' Q (W σ)
section
variable {X : Cx} {CX : CXT} {k : Nat} {f C : Addr} {fd : FuncData} {ps : List Str} {sp : Sp} {W : L2.St → XK} {m : Str} {pos apos : Pos} {o : Expr} {to : TE} {pl : Sem Bool}
theorem pe_mX {e : Expr} {es : List Expr} {ta : L2.TA} (ho : PE X o to) (c : Cls X.K C) (hm : Meth X.K C m f) (F : FnOk X.prog X.w X.K X.mg X.base CX k f fd ps sp) (hr : Room k X.A) (hb : Binds X.K fd ps []) (hx : ∀ σ, PassesAt CX X σ (W σ)) (ha : PA X (e :: es) ta)
    (h1 : starEach (e :: es) X.env = (false, eval e X.env) :: starEach es X.env := by rfl) (h2 : (backTo pos (starEach es X.env)).any (·.1) = false := by rfl)
    (h3 : eval (.Call (.Attribute o m apos) (e :: es) [] pos) X.env = (do
      let ov ← eval o X.env
      standAt apos.atName
      let (f, first) ← holding [ov] (getMethod ov m pl)
      callWith pos f first (backTo pos (starEach (e :: es) X.env)) (backToKw pos (keywordEach [] X.env))) := by rfl) : PE X (.Call (.Attribute o m apos) (e :: es) [] pos) (tMX C m sp W to ta) :=
  ⟨fun pins s σ H Q I h => PySem.W.methodCall_KW (pl := pl) (thn (ho.run pins s σ H _ I h) fun u s1 ⟨x, G, J, rx, p, dx, fs, ex, ep, l, q⟩ => by
    subst ex
    obtain rfl : u = Value.ref p := rx
    exact getmeth_ok J ep c hm l (PySem.W.callWith_K (first := [.ref p]) (h₀ := X.base) J.ok.mod.kin hm.kp (thn (ha.run pos pins s1 σ G _ J q) fun us s2 ⟨vs, G', J', r, q'⟩ => ⟨J'.kIn, run_fnS (us := .ref p :: us) (vs := .ref p :: vs) F hr hb (hx σ) J' (.cons rfl r) q'⟩) h1 h2)) h3⟩
theorem pe_mX0 (ho : PE X o to) (c : Cls X.K C) (hm : Meth X.K C m f) (F : FnOk X.prog X.w X.K X.mg X.base CX k f fd ps sp) (hr : Room k X.A) (hb : Binds X.K fd ps []) (hx : ∀ σ, PassesAt CX X σ (W σ))
    (h3 : eval (.Call (.Attribute o m apos) [] [] pos) X.env = (do
      let ov ← eval o X.env
      standAt apos.atName
      let (f, first) ← holding [ov] (getMethod ov m pl)
      callWith pos f first (backTo pos (starEach [] X.env)) (backToKw pos (keywordEach [] X.env))) := by rfl) : PE X (.Call (.Attribute o m apos) [] [] pos) (tMX C m sp W to tNil) :=
  ⟨fun pins s σ H Q I h => PySem.W.methodCall_KW (pl := pl) (thn (ho.run pins s σ H _ I h) fun u s1 ⟨x, G, J, rx, p, dx, fs, ex, ep, l, q⟩ => by
    subst ex
    obtain rfl : u = Value.ref p := rx
    exact getmeth_ok J ep c hm l (PySem.W.callWith_K0 (first := [.ref p]) J.kIn hm.kp (run_fnS (us := [.ref p]) (vs := [.ref p]) F hr hb (hx σ) J (.cons rfl .nil) q))) h3⟩
end
/-- a suite that rests on a fact which its reading tells -/
theorem pss_when {X : Cx} {ss : List Stmt} {t : TS} {P : Prop} (h : P → PSs X ss t) : PSs X ss (fun D σ H => P ∧ t D σ H) := ⟨fun pins s σ H D I hh => (h hh.1).run pins s σ H D I hh.2⟩
theorem pss_exc {X : Cx} {a : Addr} {oe : Obj} {pn : List (Addr × Obj)} {ss : List Stmt} {N : Addr} {t : TS} {cls : Value} {d : Option Addr} (hz : Zc cls d oe) (h : Zc (.ref N) none oe → PSs (X.suite a ((a, oe) :: pn)) ss t) : PSs (X.suite a ((a, oe) :: pn)) ss (fun D σ H => (cls = .ref N ∧ d = none) ∧ t D σ H) :=
  pss_when fun ⟨e1, e2⟩ => by subst e1; subst e2; exact h hz
/-- what an except clause wants of a class -/
structure ExT (K : PySem.W.Frag) (mg : Str → Option Value) (nm : Str) (N : Addr) : Prop where
  g : mg nm = some (.ref N)
  e : PySem.W.exmOne K (.ref N) (.ref N) = some true
  c : ExcC K N
theorem kitc_ref {K : PySem.W.Frag} {t : Value} {S : Addr} {b : Bool} (h2 : PySem.W.isClsIn K S = true) (h3 : PySem.W.typeIn K (.ref S) = some (.type "type")) (h4 : PySem.W.subIn K t (.ref S) = some b) : PySem.W.kitCls K t (.ref S) = some b := by
  have h2' : (PySem.W.clsIn K S).isSome = true := h2
  have e2 : ((PySem.W.clsIn K S).isSome && PySem.W.typeIn K (.ref S) == some (.type "type")) = true := by
    rw [h2', h3] <;> rfl
  unfold PySem.W.kitCls
  dsimp only
  rw [if_pos e2]
  exact h4
theorem kit1 {K : PySem.W.Frag} {t c : Value} {b : Bool} (n : (t == c) = false) (h : PySem.W.kitCls K t c = some b) : PySem.W.kitOne K t c = some b := by
  unfold PySem.W.kitOne
  rw [n]
  exact h
theorem kit_cls {K : PySem.W.Frag} {N S : Addr} {b : Bool} (n : (Value.ref N == Value.ref S) = false) (h2 : PySem.W.isClsIn K S = true) (h3 : PySem.W.typeIn K (.ref S) = some (.type "type")) (h4 : PySem.W.subIn K (.ref N) (.ref S) = some b) : PySem.W.kitOne K (.ref N) (.ref S) = some b := kit1 n (kitc_ref h2 h3 h4)
theorem kit_typ {K : PySem.W.Frag} {N : Addr} {T : String} {b : Bool} (m : PySem.W.kitMeta T = true) (h4 : PySem.W.subIn K (.ref N) (.type T) = some b) : PySem.W.kitOne K (.ref N) (.type T) = some b := kit1 rfl (by
  unfold PySem.W.kitCls
  dsimp only
  rw [if_pos m]
  exact h4)
theorem exm_self' {K : PySem.W.Frag} {S : Addr} (h1 : PySem.W.subIn K (.ref S) (.type "BaseException") = some true) (h2 : PySem.W.isClsIn K S = true) (h3 : PySem.W.typeIn K (.ref S) = some (.type "type")) (h4 : PySem.W.subIn K (.ref S) (.ref S) = some true) : PySem.W.exmOne K (.ref S) (.ref S) = some true := by
  have e1 : (PySem.W.subIn K (.ref S) (.type "BaseException") == some true) = true := by rw [h1] <;> rfl
  unfold PySem.W.exmOne
  rw [if_pos e1]
  exact kitc_ref h2 h3 h4
theorem exm_sub {K : PySem.W.Frag} {N S : Addr} {b : Bool} (h1 : PySem.W.subIn K (.ref S) (.type "BaseException") = some true) (h2 : PySem.W.isClsIn K S = true) (h3 : PySem.W.typeIn K (.ref S) = some (.type "type")) (h4 : PySem.W.subIn K (.ref N) (.ref S) = some b) : PySem.W.exmOne K (.ref N) (.ref S) = some b := by
  have e1 : (PySem.W.subIn K (.ref S) (.type "BaseException") == some true) = true := by rw [h1] <;> rfl
  unfold PySem.W.exmOne
  rw [if_pos e1]
  exact kitc_ref h2 h3 h4
end Aw

namespace PySem.SeqAt
open AutoSeq1 (wpAny_loadPart')
open MeetsSeq MeetsSeq2 MeetsSeq3 SeqRoads2
section
variable {prog : Program} {w : World}
/-- two lists, item by item alike, are not unlike -/
theorem aw_neLoop (p q : Addr) (us ws : Array Value) (m m2 : Nat) (d1 d2 : Option Addr) (t1 t2 : Array (Option Value)) (sz : us.size = ws.size) (k : Nat) :
    ∀ j : Nat, us.size - j = k → MeetsIn prog w (Builtin.«list.__eq__.loop» ⟨[.ref p, .ref q, rawInt j, rawInt 3], []⟩)
      (fun A R s => s.heap.get? p = some { cls := .type "list", dict := d1, data := .seq us m, slots := t1 } ∧ s.heap.get? q = some { cls := .type "list", dict := d2, data := .seq ws m2, slots := t2 } ∧
        (∀ j (g1 : j < us.size) (g2 : j < ws.size), EqP prog w A.in1 s us[j] ws[j] true) ∧ R (.ok (.ret (.bool false))) s) := by
  induction k with
  | zero =>
    intro j hj A R s0 hyp
    obtain ⟨hh, gg, dw, tks, oo⟩ := s0; obtain ⟨gp, gq, al, fin⟩ := hyp
    wp_walk using wpAny_loadPart' gp, wpAny_loadPart' gq
    rw [show us[((j : Nat) : Int).toNat]? = none by simp; omega, show ws[((j : Nat) : Int).toNat]? = none by simp; omega]
    wp_walk using wpAny_loadPart' gp, wpAny_loadPart' gq
    show R (.ok (.ret (.bool (us.size != ws.size)))) _
    rw [sz, show (ws.size != ws.size) = false by simp]
    exact fin
  | succ k ih =>
    intro j hj A R s0 hyp
    obtain ⟨hh, gg, dw, tks, oo⟩ := s0; obtain ⟨gp, gq, al, fin⟩ := hyp
    wp_walk using wpAny_loadPart' gp, wpAny_loadPart' gq
    have l1 : j < us.size := by omega
    have l2 : j < ws.size := by omega
    rw [show us[((j : Nat) : Int).toNat]? = some us[j] by simp [l1], show ws[((j : Nat) : Int).toNat]? = some ws[j] by simp [l2]]
    refine wpAny_bind (al j l1 l2 _ _ ?_)
    wp_walk
    rw [show ((j : Int) + 1) = ((j + 1 : Nat) : Int) by push_cast; rfl]
    exact ⟨plainId_quiet plain_eq_loop _, codeAny_builtin entry_eq_loop (by
      rw [Around.under_plainId plain_eq_loop _]; exact ih (j + 1) (by omega) A R _ ⟨gp, gq, al, fin⟩)⟩
theorem aw_neList (p q : Addr) (us ws : Array Value) (m m2 : Nat) (d1 d2 : Option Addr) (t1 t2 : Array (Option Value)) (sz : us.size = ws.size) :
    MeetsIn prog w (Builtin.«list.__ne__» ⟨[.ref p, .ref q], []⟩)
      (fun A R s => s.heap.get? p = some { cls := .type "list", dict := d1, data := .seq us m, slots := t1 } ∧ s.heap.get? q = some { cls := .type "list", dict := d2, data := .seq ws m2, slots := t2 } ∧
        (∀ j (g1 : j < us.size) (g2 : j < ws.size), EqP prog w A.in1 s us[j] ws[j] true) ∧ R (.ok (.ret (.bool false))) s) := by
  intro A R s0 hyp
  obtain ⟨hh, gg, dw, tks, oo⟩ := s0; obtain ⟨gp, gq, al, fin⟩ := hyp
  have f3 := AutoSeq1.sub_list_list
  have nsz : ¬ (us.size != ws.size) = true := by simp [sz]
  wp_walk using wpAny_loadPart' gp, wpAny_loadPart' gq
  exact ⟨plainId_quiet plain_eq_loop _, codeAny_builtin entry_eq_loop (by
    rw [Around.under_plainId plain_eq_loop _]; exact aw_neLoop p q us ws m m2 d1 d2 t1 t2 sz _ 0 rfl A R _ ⟨gp, gq, al, fin⟩)⟩
theorem aw_neLists {A : Around} {s : Shared} {p q : Addr} {us ws : Array Value} (hp : s.heap.IsList p us) (hq : s.heap.IsList q ws) (sz : us.size = ws.size) (room : A.units < cLine)
    (al : ∀ j (g1 : j < us.size) (g2 : j < ws.size), EqP prog w A.in1 s us[j] ws[j] true) (E Q : Value → Shared → Prop) (fin : Q (.bool false) s) : wpAny (model prog w) A (compareOp .NotEq (.ref p) (.ref q)) Q E s := by
  obtain ⟨⟨c1, e1, dt1, u1⟩, o1, h1, m1, k1⟩ := id hp
  obtain ⟨⟨c2, e2, dt2, u2⟩, o2, h2, m2, k2⟩ := id hq
  simp only at h1 k1 h2 k2
  subst h1 k1 h2 k2
  have y1 : s.TypeIs (.ref p) "list" := ⟨_, o1, rfl⟩
  have y2 : s.TypeIs (.ref q) "list" := ⟨_, o2, rfl⟩
  exact wpAny_richCompare_same_room (op := .NotEq) y1 y2 F.slot_list_ne (call_meetsIn F.slot_list_ne y1 F.entry_list_ne (F.args_list_ne_2 _ _) (aw_neList p q us ws m1 m2 e1 e2 u1 u2 sz)
    ⟨o1, o2, al, show Value.bool false ≠ Value.notImplemented ∧ Q (.bool false) s from ⟨(fun x => nomatch x), fin⟩⟩) room
end
end PySem.SeqAt
namespace Aw
open PySem L2
section
variable {X : Cx}
/-- two lists whose items are alike (lists and dicts within) are not unlike -/
def rNeV (K : PySem.W.Frag) : R2 := fun x y H Q => ∃ (n : Nat) (a b : Addr) (xs ys : List V), n ≤ 50 ∧ x = .ref a ∧ y = .ref b ∧ SqL K H a xs ∧ SqL K H b ys ∧ Paired (EqV K H n) xs ys ∧ Q (.bl false) H
theorem op_neV (hu : X.A.units + 64 < cLine) : OpR X (compareOp .NotEq) (rNeV X.K) := by
  intro pins s σ H x y v u Q I rx ry h
  obtain ⟨n, a, b, xs, ys, hn, rfl, rfl, ha, hb, hp, q⟩ := h
  obtain rfl : v = Value.ref a := rx
  obtain rfl : u = Value.ref b := ry
  obtain ⟨us, r1, p1, _⟩ := I.list ha
  obtain ⟨ws, r2, p2, _⟩ := I.list hb
  have sz : us.toArray.size = ws.toArray.size := by
    rw [List.size_toArray, List.size_toArray, ← r1.length, ← r2.length]; exact Paired.length hp
  refine PySem.SeqAt.aw_neLists p1.isList p2.isList sz (by omega) (fun j g1 g2 => ?_) _ _ ⟨.bl false, H, I, rfl, q⟩
  have z := items_run (eqV_run I n X.A.in1 (by show X.A.units + 1 + n < cLine; omega)) hp r1 r2 j (by simpa using g1) (by simpa using g2)
  simpa using z
end
end Aw

namespace PySem.SeqAt
open AutoSeq1 (wpAny_loadPart')
open MeetsSeq MeetsSeq2 MeetsSeq3 SeqRoads2
section
variable {prog : Program} {w : World}
theorem aw_neListD (p q : Addr) (us ws : Array Value) (m m2 : Nat) (d1 d2 : Option Addr) (t1 t2 : Array (Option Value)) (sz : ¬ us.size = ws.size) :
    MeetsIn prog w (Builtin.«list.__ne__» ⟨[.ref p, .ref q], []⟩)
      (fun A R s => s.heap.get? p = some { cls := .type "list", dict := d1, data := .seq us m, slots := t1 } ∧ s.heap.get? q = some { cls := .type "list", dict := d2, data := .seq ws m2, slots := t2 } ∧
        R (.ok (.ret (.bool true))) s) := by
  intro A R s0 hyp
  obtain ⟨hh, gg, dw, tks, oo⟩ := s0; obtain ⟨gp, gq, fin⟩ := hyp
  have f3 := AutoSeq1.sub_list_list
  have nsz : (us.size != ws.size) = true := by simp [sz]
  wp_walk using wpAny_loadPart' gp, wpAny_loadPart' gq
  exact fin
theorem aw_neListsD {A : Around} {s : Shared} {p q : Addr} {us ws : Array Value} (hp : s.heap.IsList p us) (hq : s.heap.IsList q ws) (sz : ¬ us.size = ws.size) (room : A.units < cLine)
    (E Q : Value → Shared → Prop) (fin : Q (.bool true) s) : wpAny (model prog w) A (compareOp .NotEq (.ref p) (.ref q)) Q E s := by
  obtain ⟨⟨c1, e1, dt1, u1⟩, o1, h1, m1, k1⟩ := id hp
  obtain ⟨⟨c2, e2, dt2, u2⟩, o2, h2, m2, k2⟩ := id hq
  simp only at h1 k1 h2 k2
  subst h1 k1 h2 k2
  have y1 : s.TypeIs (.ref p) "list" := ⟨_, o1, rfl⟩
  have y2 : s.TypeIs (.ref q) "list" := ⟨_, o2, rfl⟩
  exact wpAny_richCompare_same_room (op := .NotEq) y1 y2 F.slot_list_ne (call_meetsIn F.slot_list_ne y1 F.entry_list_ne (F.args_list_ne_2 _ _) (aw_neListD p q us ws m1 m2 e1 e2 u1 u2 sz)
    ⟨o1, o2, show Value.bool true ≠ Value.notImplemented ∧ Q (.bool true) s from ⟨(fun x => nomatch x), fin⟩⟩) room
end
end PySem.SeqAt
namespace Aw
open PySem L2
section
variable {X : Cx}
/-- whether a list has something in it -/
def rNeE (K : PySem.W.Frag) : R2 := fun x y H Q => ∃ (a b : Addr) (xs : List V), x = .ref a ∧ y = .ref b ∧ SqL K H a xs ∧ SqL K H b [] ∧ (xs = [] → Q (.bl false) H) ∧ (xs ≠ [] → Q (.bl true) H)
theorem op_neE (hu : X.A.units + 64 < cLine) : OpR X (compareOp .NotEq) (rNeE X.K) := by
  intro pins s σ H x y v u Q I rx ry h
  obtain ⟨a, b, xs, rfl, rfl, ha, hb, q1, q2⟩ := h
  obtain rfl : v = Value.ref a := rx
  obtain rfl : u = Value.ref b := ry
  obtain ⟨us, r1, p1, _⟩ := I.list ha
  obtain ⟨ws, r2, p2, _⟩ := I.list hb
  have w0 : ws.length = 0 := by rw [← r2.length]; rfl
  by_cases c : xs = []
  · have sz : us.toArray.size = ws.toArray.size := by
      rw [List.size_toArray, List.size_toArray, ← r1.length, ← r2.length, c]
    refine PySem.SeqAt.aw_neLists p1.isList p2.isList sz (by omega) (fun j g1 g2 => ?_) _ _ ⟨.bl false, H, I, rfl, q1 c⟩
    rw [List.size_toArray] at g2
    omega
  · have sz : ¬ us.toArray.size = ws.toArray.size := by
      rw [List.size_toArray, List.size_toArray, ← r1.length, w0]
      intro h
      exact c (List.length_eq_zero_iff.mp h)
    exact PySem.SeqAt.aw_neListsD p1.isList p2.isList sz (by omega) _ _ ⟨.bl true, H, I, rfl, q2 c⟩
end
end Aw

namespace Aw
open PySem L2
/-! ### dicts of numbers or texts by names, the same on both sides -/
inductive Lv where
  | i (n : Int)
  | s (x : Str)
def Lv.v : Lv → V
  | .i n => .int n
  | .s x => .str x
theorem hits_leaf {A : Around} {s : Shared} {ls : List (Key × V)} {vb : List (Key × Value)} (rb : L2.KV ls vb) : ∀ {ks : List (Key × V)} {va : List (Key × Value)}, L2.KV ks va → (∀ p ∈ ks, ∃ q : Lv, p.2 = q.v ∧ valV ls p.1 = some q.v) → PySem.W.KeqHits A s vb va true := by
  intro ks va ra
  unfold L2.KV at ra
  induction ra with
  | nil => intro _; exact .nil
  | @cons p q ps qs h t ih =>
    intro hp
    obtain ⟨h1, h2⟩ := h
    obtain ⟨x, e, f⟩ := hp p List.mem_cons_self
    have rr : RelO (some x.v) (valueAt vb p.1) := by rw [← f]; exact rb.val p.1
    obtain ⟨y, hy, ry⟩ := rr.some_of
    obtain ⟨k, v⟩ := q
    have h1' : p.1 = k := h1
    rw [h1'] at hy
    rw [e] at h2
    cases x with
    | i n =>
      obtain ⟨t1, rfl⟩ := (show ∃ t, v = Value.int n t from h2)
      obtain ⟨t2, rfl⟩ := (show ∃ t, y = Value.int n t from ry)
      have hh := PySem.SeqAt.EqAt.int_int (A := A) (s := s) n t1 n t2
      rw [show (n == n) = true from beq_self_eq_true n] at hh
      exact .hit hy hh (ih fun p' hm => hp p' (List.mem_cons_of_mem _ hm))
    | s z =>
      obtain ⟨t1, rfl⟩ := (show ∃ t, v = Value.str z t from h2)
      obtain ⟨t2, rfl⟩ := (show ∃ t, y = Value.str z t from ry)
      have hh := PySem.SeqAt.EqAt.str_str (A := A) (s := s) z t1 z t2
      rw [show (z == z) = true from by simp] at hh
      exact .hit hy hh (ih fun p' hm => hp p' (List.mem_cons_of_mem _ hm))
section
variable {X : Cx}
def rNeDL : R2 := fun x y H Q => ∃ a b ks ls, x = .ref a ∧ y = .ref b ∧ H a = some (.dK ks) ∧ H b = some (.dK ls) ∧ ks.length = ls.length ∧ (∀ p ∈ ks, ∃ q : Lv, p.2 = q.v ∧ valV ls p.1 = some q.v) ∧ Q (.bl false) H
theorem op_ne_dictL (hu : X.A.units < cLine) : OpR X (compareOp .NotEq) rNeDL := by
  intro pins s σ H x y v u Q I rx ry h
  obtain ⟨a, b, ks, ls, rfl, rfl, ea, eb, hlen, hp, q⟩ := h
  obtain rfl : v = Value.ref a := rx
  obtain rfl : u = Value.ref b := ry
  obtain ⟨_, ya, va, ra, da⟩ := (show ObjOk X.prog X.w H s.heap a (.dK ks) from I.hok a _ ea)
  obtain ⟨_, yb, vb, rb, db⟩ := (show ObjOk X.prog X.w H s.heap b (.dK ls) from I.hok b _ eb)
  have hl : va.length = vb.length := by rw [← ra.length, ← rb.length]; exact hlen
  exact PySem.W.keq_ne (knd := mixKind X.prog X.w) ya yb da db hu (fun _ => hits_leaf rb ra hp) (fin_bl I q (by simp [hl]))
end
end Aw

namespace Aw
open PySem L2
def top (i : Nat) : Stmt := PySem.Challenge.pw_anewhall_k32_book_refused.main.body.getD i (.Pass ⟨0, 0, 0, 0⟩)
abbrev s__wall : Stmt := top 0
/- slots 0:k -/
theorem sc__wall : FnScope ["k"] ["k"] (defScope s__wall) := ⟨rfl, rfl, rfl, by decide +kernel, rfl, by decide +kernel, by decide +kernel⟩
abbrev s_number_piece : Stmt := top 5
/- slots 0:number -/
theorem sc_number_piece : FnScope ["number"] ["number"] (defScope s_number_piece) := ⟨rfl, rfl, rfl, by decide +kernel, rfl, by decide +kernel, by decide +kernel⟩
abbrev s_name_piece : Stmt := top 6
/- slots 0:name -/
theorem sc_name_piece : FnScope ["name"] ["name"] (defScope s_name_piece) := ⟨rfl, rfl, rfl, by decide +kernel, rfl, by decide +kernel, by decide +kernel⟩
abbrev s_gate_piece : Stmt := top 7
/- slots 0:name 1:bound 2:piece -/
theorem sc_gate_piece : FnScope ["name", "bound", "piece"] ["name", "bound", "piece"] (defScope s_gate_piece) := ⟨rfl, rfl, rfl, by decide +kernel, rfl, by decide +kernel, by decide +kernel⟩
abbrev s_joined_piece : Stmt := top 8
/- slots 0:kind 1:pieces -/
theorem sc_joined_piece : FnScope ["kind", "pieces"] ["kind", "pieces"] (defScope s_joined_piece) := ⟨rfl, rfl, rfl, by decide +kernel, rfl, by decide +kernel, by decide +kernel⟩
abbrev s_shown : Stmt := top 9
/- slots 0:recipe 1:kind 2:_ 3:name 4:bound 5:piece 6:parts 7:sign; cells kind -/
theorem sc_shown : FnScope ["recipe", "kind", "_", "name", "bound", "piece", "parts", "sign"] ["recipe"] (defScope s_shown) := ⟨rfl, rfl, rfl, by decide +kernel, rfl, by decide +kernel, by decide +kernel⟩
abbrev s_shown_within : Stmt := top 10
/- slots 0:kind 1:piece 2:text -/
theorem sc_shown_within : FnScope ["kind", "piece", "text"] ["kind", "piece"] (defScope s_shown_within) := ⟨rfl, rfl, rfl, by decide +kernel, rfl, by decide +kernel, by decide +kernel⟩
abbrev s_Words_init : Stmt := inClass (top 28) 0
/- slots 0:self 1:words -/
theorem sc_Words_init : FnScope ["self", "words"] ["self", "words"] (defScope s_Words_init) := ⟨rfl, rfl, rfl, by decide +kernel, rfl, by decide +kernel, by decide +kernel⟩
abbrev s_Words_ahead : Stmt := inClass (top 28) 1
/- slots 0:self -/
theorem sc_Words_ahead : FnScope ["self"] ["self"] (defScope s_Words_ahead) := ⟨rfl, rfl, rfl, by decide +kernel, rfl, by decide +kernel, by decide +kernel⟩
abbrev s_Words_taken : Stmt := inClass (top 28) 2
/- slots 0:self 1:word -/
theorem sc_Words_taken : FnScope ["self", "word"] ["self"] (defScope s_Words_taken) := ⟨rfl, rfl, rfl, by decide +kernel, rfl, by decide +kernel, by decide +kernel⟩
abbrev s_Words_expect : Stmt := inClass (top 28) 3
/- slots 0:self 1:word -/
theorem sc_Words_expect : FnScope ["self", "word"] ["self", "word"] (defScope s_Words_expect) := ⟨rfl, rfl, rfl, by decide +kernel, rfl, by decide +kernel, by decide +kernel⟩
abbrev s_read : Stmt := top 29
/- slots 0:text 1:words 2:reader 3:recipe -/
theorem sc_read : FnScope ["text", "words", "reader", "recipe"] ["text"] (defScope s_read) := ⟨rfl, rfl, rfl, by decide +kernel, rfl, by decide +kernel, by decide +kernel⟩
abbrev s_words_of : Stmt := top 30
/- slots 0:text 1:words 2:before 3:sign 4:kind -/
theorem sc_words_of : FnScope ["text", "words", "before", "sign", "kind"] ["text"] (defScope s_words_of) := ⟨rfl, rfl, rfl, by decide +kernel, rfl, by decide +kernel, by decide +kernel⟩
abbrev s_kind_of : Stmt := top 31
/- slots 0:sign -/
theorem sc_kind_of : FnScope ["sign"] ["sign"] (defScope s_kind_of) := ⟨rfl, rfl, rfl, by decide +kernel, rfl, by decide +kernel, by decide +kernel⟩
abbrev s_read_level : Stmt := top 32
/- slots 0:reader 1:level 2:deep 3:kind 4:pieces -/
theorem sc_read_level : FnScope ["reader", "level", "deep", "kind", "pieces"] ["reader", "level", "deep"] (defScope s_read_level) := ⟨rfl, rfl, rfl, by decide +kernel, rfl, by decide +kernel, by decide +kernel⟩
abbrev s_read_piece : Stmt := top 33
/- slots 0:reader 1:deep 2:word 3:piece -/
theorem sc_read_piece : FnScope ["reader", "deep", "word", "piece"] ["reader", "deep"] (defScope s_read_piece) := ⟨rfl, rfl, rfl, by decide +kernel, rfl, by decide +kernel, by decide +kernel⟩
abbrev s_read_gate : Stmt := top 34
/- slots 0:reader 1:deep 2:name 3:bound -/
theorem sc_read_gate : FnScope ["reader", "deep", "name", "bound"] ["reader", "deep"] (defScope s_read_gate) := ⟨rfl, rfl, rfl, by decide +kernel, rfl, by decide +kernel, by decide +kernel⟩
abbrev s_is_name : Stmt := top 35
/- slots 0:text 1:sign -/
theorem sc_is_name : FnScope ["text", "sign"] ["text"] (defScope s_is_name) := ⟨rfl, rfl, rfl, by decide +kernel, rfl, by decide +kernel, by decide +kernel⟩
abbrev s_number_of : Stmt := top 36
/- slots 0:word 1:lowest 2:number -/
theorem sc_number_of : FnScope ["word", "lowest", "number"] ["word", "lowest"] (defScope s_number_of) := ⟨rfl, rfl, rfl, by decide +kernel, rfl, by decide +kernel, by decide +kernel⟩
abbrev s_Hall_init : Stmt := inClass (top 39) 0
/- slots 0:self -/
theorem sc_Hall_init : FnScope ["self"] ["self"] (defScope s_Hall_init) := ⟨rfl, rfl, rfl, by decide +kernel, rfl, by decide +kernel, by decide +kernel⟩
abbrev s_Hall_put : Stmt := inClass (top 39) 1
/- slots 0:self 1:name 2:number -/
theorem sc_Hall_put : FnScope ["self", "name", "number"] ["self", "name", "number"] (defScope s_Hall_put) := ⟨rfl, rfl, rfl, by decide +kernel, rfl, by decide +kernel, by decide +kernel⟩
abbrev s_Hall_make : Stmt := inClass (top 39) 2
/- slots 0:self 1:name 2:text 3:recipe -/
theorem sc_Hall_make : FnScope ["self", "name", "text", "recipe"] ["self", "name", "text"] (defScope s_Hall_make) := ⟨rfl, rfl, rfl, by decide +kernel, rfl, by decide +kernel, by decide +kernel⟩
abbrev s_Hall_check_room : Stmt := inClass (top 39) 3
/- slots 0:self 1:name -/
theorem sc_Hall_check_room : FnScope ["self", "name"] ["self", "name"] (defScope s_Hall_check_room) := ⟨rfl, rfl, rfl, by decide +kernel, rfl, by decide +kernel, by decide +kernel⟩
abbrev s_Hall_ask : Stmt := inClass (top 39) 4
/- slots 0:self 1:name -/
theorem sc_Hall_ask : FnScope ["self", "name"] ["self", "name"] (defScope s_Hall_ask) := ⟨rfl, rfl, rfl, by decide +kernel, rfl, by decide +kernel, by decide +kernel⟩
abbrev s_Hall_runs : Stmt := inClass (top 39) 5
/- slots 0:self -/
theorem sc_Hall_runs : FnScope ["self"] ["self"] (defScope s_Hall_runs) := ⟨rfl, rfl, rfl, by decide +kernel, rfl, by decide +kernel, by decide +kernel⟩
abbrev s_Hall_leans : Stmt := inClass (top 39) 6
/- slots 0:self 1:name -/
theorem sc_Hall_leans : FnScope ["self", "name"] ["self", "name"] (defScope s_Hall_leans) := ⟨rfl, rfl, rfl, by decide +kernel, rfl, by decide +kernel, by decide +kernel⟩
abbrev s_Hall_rings : Stmt := inClass (top 39) 7
/- slots 0:self -/
theorem sc_Hall_rings : FnScope ["self"] ["self"] (defScope s_Hall_rings) := ⟨rfl, rfl, rfl, by decide +kernel, rfl, by decide +kernel, by decide +kernel⟩
abbrev s_Hall_mark : Stmt := inClass (top 39) 8
/- slots 0:self -/
theorem sc_Hall_mark : FnScope ["self"] ["self"] (defScope s_Hall_mark) := ⟨rfl, rfl, rfl, by decide +kernel, rfl, by decide +kernel, by decide +kernel⟩
abbrev s_Hall_back : Stmt := inClass (top 39) 9
/- slots 0:self 1:point -/
theorem sc_Hall_back : FnScope ["self", "point"] ["self", "point"] (defScope s_Hall_back) := ⟨rfl, rfl, rfl, by decide +kernel, rfl, by decide +kernel, by decide +kernel⟩
abbrev s_Hall_wells : Stmt := inClass (top 39) 10
/- slots 0:self 1:name; cells self -/
theorem sc_Hall_wells : FnScope ["self", "name"] ["self"] (defScope s_Hall_wells) := ⟨rfl, rfl, rfl, by decide +kernel, rfl, by decide +kernel, by decide +kernel⟩
abbrev s_Hall_works : Stmt := inClass (top 39) 11
/- slots 0:self 1:name; cells self -/
theorem sc_Hall_works : FnScope ["self", "name"] ["self"] (defScope s_Hall_works) := ⟨rfl, rfl, rfl, by decide +kernel, rfl, by decide +kernel, by decide +kernel⟩
abbrev s_check_name : Stmt := top 40
/- slots 0:text -/
theorem sc_check_name : FnScope ["text"] ["text"] (defScope s_check_name) := ⟨rfl, rfl, rfl, by decide +kernel, rfl, by decide +kernel, by decide +kernel⟩
abbrev s_do_row : Stmt := top 42
/- slots 0:hall 1:row 2:word 3:_ 4:rest 5:name 6:blank 7:worth -/
theorem sc_do_row : FnScope ["hall", "row", "word", "_", "rest", "name", "blank", "worth"] ["hall", "row"] (defScope s_do_row) := ⟨rfl, rfl, rfl, by decide +kernel, rfl, by decide +kernel, by decide +kernel⟩
abbrev s_is_one_or_two_figures : Stmt := top 43
/- slots 0:text 1:sign -/
theorem sc_is_one_or_two_figures : FnScope ["text", "sign"] ["text"] (defScope s_is_one_or_two_figures) := ⟨rfl, rfl, rfl, by decide +kernel, rfl, by decide +kernel, by decide +kernel⟩
abbrev s_opened : Stmt := top 45
/- slots 0:rows 1:hall 2:row -/
theorem sc_opened : FnScope ["rows", "hall", "row"] ["rows"] (defScope s_opened) := ⟨rfl, rfl, rfl, by decide +kernel, rfl, by decide +kernel, by decide +kernel⟩
abbrev s_law_cell_at : Stmt := top 47
/- slots 0:_law_script 1:_law_k -/
theorem sc_law_cell_at : FnScope ["_law_script", "_law_k"] ["_law_script", "_law_k"] (defScope s_law_cell_at) := ⟨rfl, rfl, rfl, by decide +kernel, rfl, by decide +kernel, by decide +kernel⟩
abbrev s_law_names : Stmt := top 48
/- slots 0:_law_cell 1:_law_many 2:_law_letters 3:_law_size 4:_law_at 5:_law_out 6:_law_k 7:_law_name 8:_law_place 9:_law_step -/
theorem sc_law_names : FnScope ["_law_cell", "_law_many", "_law_letters", "_law_size", "_law_at", "_law_out", "_law_k", "_law_name", "_law_place", "_law_step"] ["_law_cell", "_law_many"] (defScope s_law_names) := ⟨rfl, rfl, rfl, by decide +kernel, rfl, by decide +kernel, by decide +kernel⟩
abbrev s_law_row : Stmt := top 49
/- slots 0:_law_cell 1:_law_name 2:_law_some -/
theorem sc_law_row : FnScope ["_law_cell", "_law_name", "_law_some"] ["_law_cell", "_law_name"] (defScope s_law_row) := ⟨rfl, rfl, rfl, by decide +kernel, rfl, by decide +kernel, by decide +kernel⟩
abbrev s_law_kind : Stmt := top 50
/- slots 0:_law_rows 1:e 2:_law_beside -/
theorem sc_law_kind : FnScope ["_law_rows", "e", "_law_beside"] ["_law_rows"] (defScope s_law_kind) := ⟨rfl, rfl, rfl, by decide +kernel, rfl, by decide +kernel, by decide +kernel⟩
abbrev s_law_wells : Stmt := top 51
/- slots 0:_law_rows 1:_law_wells_here 2:_law_row_here 3:_law_words -/
theorem sc_law_wells : FnScope ["_law_rows", "_law_wells_here", "_law_row_here", "_law_words"] ["_law_rows"] (defScope s_law_wells) := ⟨rfl, rfl, rfl, by decide +kernel, rfl, by decide +kernel, by decide +kernel⟩
abbrev s_law : Stmt := top 52
/- slots 0:_law_script 1:_law_names_here 2:_law_many 3:_law_rows 4:_law_is_new 5:_law_name 6:_law_row_here 7:_law_due 8:_law_given 9:_law_second 10:_law_later 11:_law_ahead 12:_law_found 13:_law_wells_here 14:_law_k; cells _law_script _law_names_here -/
theorem sc_law : FnScope ["_law_script", "_law_names_here", "_law_many", "_law_rows", "_law_is_new", "_law_name", "_law_row_here", "_law_due", "_law_given", "_law_second", "_law_later", "_law_ahead", "_law_found", "_law_wells_here", "_law_k"] ["_law_script"] (defScope s_law) := ⟨rfl, rfl, rfl, by decide +kernel, rfl, by decide +kernel, by decide +kernel⟩
end Aw

namespace Aw
open PySem L2
/-- what the top has written that the reading asks: its class, its error, its constants, the built-ins that it calls -/
structure Txt (K : PySem.W.Frag) (mg : Str → Option Value) (C N : Addr) : Prop where
  cl : Cls K C
  nW : NoAttr K C "words"
  nA : NoAttr K C "at"
  mgC : mg "Words" = some (.ref C)
  xN : PySem.W.excIn K N [.type "ValueError", .type "Exception", .type "BaseException", .type "object"] "ValueError.__new__" = true
  gN : mg "NoRecipe" = some (.ref N)
  kN : PySem.W.keepIn K (.ref N) = true
  bN : PySem.W.subIn K (.ref N) (.type "BaseException") = some true
  tN : PySem.W.typeIn K (.ref N) = some (.type "type")
  len : mg "len" = none
  range : mg "range" = none
  str : mg "str" = none
  all : mg "all" = none
  tup : mg "tuple" = none
  gGr : ∃ t, mg "GREATEST" = some (.int 30 t)
  gLet : ∃ t, mg "LETTERS" = some (.str "abcdefghijklmnopqrstuvwxyz" t)
  gFig : ∃ t, mg "FIGURES" = some (.str "0123456789" t)
  gOth : ∃ t, mg "OTHER_WORDS" = some (.str "+&|()[]" t)
  gLN : ∃ t, mg "LONGEST_NAME" = some (.int 6 t)
  gMP : ∃ t, mg "MOST_PIECES" = some (.int 8 t)
  gMW : ∃ t, mg "MOST_WORDS" = some (.int 40 t)
  gMS : ∃ t, mg "MOST_SIGNS" = some (.int 400 t)
  gDe : ∃ t, mg "DEEPEST" = some (.int 2 t)
section
variable {P : Program} {w : World} {K : PySem.W.Frag} {mg : Str → Option Value} {base : Heap} {C N : Addr} {f : Addr} {fd : FuncData}
theorem ok_Winit (F : Fun K "__init__" "Words.__init__" s_Words_init f fd) (T : Txt K mg C N) : FnOk P w K mg base CX0 1 f fd ["self", "words"] (spInit C) := by
  refine F.ok sc_Words_init (fun vs H Q E h => ?_) (fun cdv A outer s H vs Q E hr h => ?_)
  · obtain ⟨p, dx, l, rfl, _⟩ := h
    rfl
  obtain ⟨p, dx, l, rfl, hp, k⟩ := h
  refine ⟨_, pss_cons (ps_fld (pv 0) (pv 1) rfl) (pss_one (ps_fld (pv 0) pe_int rfl)), ?_⟩
  refine ⟨_, rfl, _, rfl, p, C, dx, [], rfl, hp, T.cl, T.nW, (by show 0 < 1000; decide), _, rfl, p, C, dx, _, rfl, upd_same, T.cl, T.nA, (by show 1 < 1000; decide), ?_⟩
  refine k _ upd_same fun b o e hb => ?_
  rw [upd_ne hb, upd_ne hb]
  exact e
theorem ok_ahead (F : Fun K "ahead" "Words.ahead" s_Words_ahead f fd) (T : Txt K mg C N) : FnOk P w K mg base CX0 1 f fd ["self"] (spAhead C) := by
  refine F.ok sc_Words_ahead (fun vs H Q E h => ?_) (fun cdv A outer s H vs Q E hr h => ?_)
  · obtain ⟨p, l, ws, i, rfl, _⟩ := h
    rfl
  obtain ⟨p, l, ws, i, rfl, R, k⟩ := h
  obtain ⟨dx, hp⟩ := R.ob
  refine ⟨_, pss_cons (ps_if (pt_cmpR op_lt (pe_fld (pv 0) rfl) (pe_callB call_len_seq (by rfl) T.len PySem.boot_len (pa_cons (pe_fld (pv 0) rfl) pa_nil)) (nomark _))
      (pss_one (ps_ret (pe_ix ix_list (pe_fld (pv 0) rfl) (pe_fld (pv 0) rfl) (fun _ _ => rfl)))) pss_nil)
    (pss_one (ps_ret pe_str)), ?_⟩
  refine ⟨_, rfl, p, C, dx, _, _, rfl, hp, T.cl, T.nA, rflds_at _ _, _, rfl, p, C, dx, _, _, rfl, hp, T.cl, T.nW, rflds_words _ _, l, _, rfl, .inl (SqL.of R.ls), _, _, rfl, rfl, _, rfl, ?_⟩
  refine ite2 (fun c => ?_) (fun c => ?_)
  · have c' : (i : Int) < (((ws.map V.str).length : Nat) : Int) := of_decide_eq_true c
    rw [List.length_map] at c'
    have hi : i < ws.length := by omega
    refine ⟨_, rfl, p, C, dx, _, _, rfl, hp, T.cl, T.nW, rflds_words _ _, _, rfl, p, C, dx, _, _, rfl, hp, T.cl, T.nA, rflds_at _ _, l, _, _, .str (wd ws i), rfl, rfl, SqL.of R.ls, ?_, k⟩
    exact atI_nat (by rw [List.getElem?_map, wd_get hi] <;> rfl)
  · have c' : ¬ (i : Int) < (((ws.map V.str).length : Nat) : Int) := of_decide_eq_false (Bool.eq_false_iff.mpr c)
    rw [List.length_map] at c'
    have e := wd_end (ws := ws) (i := i) (by omega)
    rw [e] at k
    exact k
theorem ok_taken {g : Addr} {gd : FuncData} (F : Fun K "taken" "Words.taken" s_Words_taken f fd) (T : Txt K mg C N) (FA : Fun K "ahead" "Words.ahead" s_Words_ahead g gd) (bA : Binds K gd ["self"] []) (mA : Meth K C "ahead" g) : FnOk P w K mg base CX0 2 f fd ["self"] (spTaken C) := by
  have GA : FnOk P w K mg base CX0 1 g gd ["self"] (spAhead C) := ok_ahead FA T
  refine F.ok sc_Words_taken (fun vs H Q E h => ?_) (fun cdv A outer s H vs Q E hr h => ?_)
  · obtain ⟨p, l, ws, i, rfl, _⟩ := h
    rfl
  obtain ⟨p, l, ws, i, rfl, R, k⟩ := h
  obtain ⟨dx, hp⟩ := R.ob
  refine ⟨_, pss_cons (ps_set (i := 1) sc_Words_taken.nd rfl (Or.inl rfl) (pe_meth0 (pv 0) T.cl mA GA hr bA .nil pass0))
    (pss_cons (ps_fldaug (pv 0) pe_int in_add)
    (pss_one (ps_ret (pv 1)))), ?_⟩
  refine ⟨_, rfl, p, dx, _, rfl, hp, rflds_no _ _ (by decide +kernel) (by decide +kernel), p, l, ws, i, rfl, R, ?_⟩
  refine ⟨_, rfl, p, C, dx, _, _, rfl, hp, T.cl, T.nA, rflds_at _ _, _, _, rfl, rfl, dx, _, hp, (by rw [rflds_eq]; show 2 < 1000; decide), ?_⟩
  refine ⟨_, rfl, ?_⟩
  have npl : l ≠ p := ne_of R.ls hp (by intro z; cases z)
  refine k _ (But.upd _) ⟨⟨dx, ?_⟩, (by rw [upd_ne npl]; exact R.ls), R.ln⟩
  rw [upd_same, rflds_put l i (by omega)]
end
end Aw

namespace Aw
open PySem L2
section
variable {X : Cx}
/-- xs[i] read for xs[i] op= e -/
theorem get_list : PGet X (rIxL X.K) := by
  intro pins s σ H x y v u Q I rx ry h
  obtain ⟨p, xs, i, z, rfl, rfl, hq, he, q⟩ := h
  cases rx
  obtain ⟨t, rfl⟩ := ry
  obtain ⟨its, r, pl, hz⟩ := I.list hq
  obtain ⟨j, h1, h2, h3, h4, h5⟩ := atI_get he
  obtain ⟨w, ew, rw'⟩ := r.get h2
  have hl := r.length
  have hn := line63
  have fin : EP X pins σ Q w s := ⟨z, H, I, rw', q⟩
  by_cases h0 : 0 ≤ i
  · have hj : i.toNat = j := by
      rw [seqIndex_of h0 h5] at h1
      exact Option.some.inj h1
    exact PySem.wpAny_getItem_list (Q := fun r s' => EP X pins σ Q r s') pl.isList h0 (by omega) (by rw [hj]; simpa using ew) fin
  · have hj : (i + (its.toArray.size : Int)).toNat = j := by
      rw [seqIndex_neg (by omega) h4] at h1
      rw [List.size_toArray, ← hl]
      exact Option.some.inj h1
    exact PySem.wpAny_getItem_list_neg (Q := fun r s' => EP X pins σ Q r s') pl.isList (by omega) (by rw [List.size_toArray] <;> omega) (by omega) (by rw [hj]; simpa using ew) fin
end
section
variable {X : Cx} {x : Str} {pos : Pos}
theorem pe_gI {n : Int} (hm : ∃ t, X.mg x = some (.int n t)) (hg : Gl X x := by rfl) (hd : (x == ("__debug__" : Str)) = false := by decide) : PE X (.Name x pos) (tC (.int n)) := by
  obtain ⟨t, hm⟩ := hm
  exact pe_glob hg hm ⟨_, rfl⟩ hd
theorem pe_gS {z : Str} (hm : ∃ t, X.mg x = some (.str z t)) (hg : Gl X x := by rfl) (hd : (x == ("__debug__" : Str)) = false := by decide) : PE X (.Name x pos) (tC (.str z)) := by
  obtain ⟨t, hm⟩ := hm
  exact pe_glob hg hm ⟨_, rfl⟩ hd
end
theorem find_none {p : Nat → Bool} {n : Nat} (h : ∀ i, i < n → p i = false) : (List.range n).find? p = none := by
  rw [List.find?_eq_none]
  intro x hx
  rw [h x (List.mem_range.mp hx)]
  exact Bool.false_ne_true
theorem find_at {p : Nat → Bool} {n i : Nat} (hi : i < n) (h : ∀ j, j < i → p j = false) (hp : p i = true) : (List.range n).find? p = some i := by
  rw [List.find?_eq_some_iff_getElem]
  refine ⟨hp, i, by simpa using hi, by simp, fun j hj => ?_⟩
  have e := h j hj
  simp [e]
theorem small_tx {i : Int} (h0 : 0 ≤ i) (h1 : i ≤ 1000) : i.natAbs.log2 < 1920 := by
  have e : i.natAbs ≤ 1000 := by omega
  rcases Nat.eq_zero_or_pos i.natAbs with q | q
  · rw [q]; decide
  · have := (Nat.log2_lt (by omega : i.natAbs ≠ 0) (k := 1920)).mpr (Nat.lt_of_le_of_lt e (by decide +kernel))
    exact this
theorem len_sg1 (c : Nat) : (sg1 c).length = 1 := rfl
theorem len_app (a b : Str) : (a ++ b).length = a.length + b.length := by
  show (a.cps ++ b.cps).size = _
  rw [Array.size_append] <;> rfl
theorem big {n : Nat} (h : n ≤ 100000) : n ≤ sizeLine := Nat.le_trans h (by decide)
section
variable {P : Program} {w : World} {K : PySem.W.Frag} {mg : Str → Option Value} {base : Heap} {C N : Addr} {f : Addr} {fd : FuncData}
theorem ok_expect {g : Addr} {gd : FuncData} (F : Fun K "expect" "Words.expect" s_Words_expect f fd) (T : Txt K mg C N) (GT : FnOk P w K mg base CX0 2 g gd ["self"] (spTaken C)) (bA : Binds K gd ["self"] []) (mA : Meth K C "taken" g) : FnOk P w K mg base (L2.CX P w) 3 f fd ["self", "word"] (spExpect C N) := by
  refine F.okX sc_Words_expect (fun vs H Q E h => ?_) (fun cdv A outer s H vs Q E hr h => ?_)
  · obtain ⟨p, l, ws, i, z, rfl, _⟩ := h
    rfl
  obtain ⟨p, l, ws, i, z, rfl, R, hz, hw, k1, k2⟩ := h
  obtain ⟨dx, hp⟩ := R.ob
  refine ⟨_, pss_one (ps_if (pt_cmpR op_ne (pe_meth0 (pv 0) T.cl mA GT hr bA .nil pass0) (pv 1) (nomark _))
      (pss_one (ps_raise (W := fun cls d _ H => E cls d H) rfl (takes_of rfl rfl rfl rfl) (SkE.pmk_own1 PySem.F.excBase_ValueError T.xN T.gN T.kN (raises_own T.bN T.tN) rfl (pe_joined (.cons pe_str (.cons (pe_fmt (pv 1)) (.cons pe_str .nil))))))) pss_nil), ?_⟩
  refine ⟨_, rfl, p, dx, _, rfl, hp, rflds_no _ _ (by decide +kernel) (by decide +kernel), p, l, ws, i, rfl, R, fun H' hb R' => ?_⟩
  refine ⟨_, rfl, rfl, _, rfl, ?_⟩
  by_cases e : wd ws i = z
  · rw [show decide (V.str (wd ws i) = V.str z) = true from decide_eq_true (by rw [e])]
    exact iteF (k1 e H' hb R')
  · rw [show decide (V.str (wd ws i) = V.str z) = false from decide_eq_false (by intro q; cases q; exact e rfl)]
    refine iteT ?_
    refine ⟨_, rfl, ?_, _, rfl, .inl ⟨z, rfl, big (by omega), z, rfl, ?_, _, rfl, ?_, k2 e H' hb⟩⟩
    · rw [len_app]; exact big (by show 0 + 18 ≤ _; decide)
    · rw [len_app, len_app]; exact big (by show 0 + 18 + z.length ≤ _; omega)
    · rw [len_app, len_app, len_app]; exact big (by show 0 + 18 + z.length + 20 ≤ _; omega)
theorem ok_number (F : Fun K "number_of" "number_of" s_number_of f fd) (T : Txt K mg C N) : FnOk P w K mg base (L2.CX P w) 1 f fd ["word", "lowest"] (spNum N) := by
  refine F.okX sc_number_of (fun vs H Q E h => ?_) (fun cdv A outer s H vs Q E hr h => ?_)
  · obtain ⟨z, lo, rfl, _⟩ := h
    rfl
  obtain ⟨z, lo, rfl, h0, h30, k1, k2⟩ := h
  refine ⟨_, pss_cons (ps_for (passes_of rfl) rfl (pi_range2 (by rfl) T.range (pa_cons (pv 1) (pa_cons (pe_op op_add (pe_gI T.gGr) pe_int) pa_nil))) (pg_name (i := 2) sc_number_of.nd rfl (Or.inl rfl))
      (pss_one (ps_if (pt_cmpR op_eq (pv 0) (pe_callTy call_str_int (by rfl) T.str (by decide +kernel) (pa_cons (pv 2) pa_nil)) (nomark _)) (pss_one (ps_ret (pv 2))) pss_nil)))
    (pss_one (ps_raise (W := fun cls d _ H => E cls d H) rfl (takes_of rfl rfl rfl rfl) (pmk_own PySem.F.excBase_ValueError T.xN T.gN T.kN (raises_own T.bN T.tN) rfl))), ?_⟩
  refine ⟨_, rfl, _, _, rfl, rfl, lo, 31, rfl, ⟨by omega, by omega, by omega, by omega⟩, ?_⟩
  refine for_range (lo := lo) (n := (31 - lo).toNat) (fun i σ H' => H' = H ∧ (∃ v : Option V, σ = [some (.str z), some (.int lo), v]) ∧ ∀ j : Nat, j < i → z ≠ tx (lo + (j : Nat))) ⟨rfl, ⟨none, rfl⟩, fun j hj => by omega⟩ ?_ ?_
  · rintro i σ H' hi ⟨rfl, ⟨v, rfl⟩, hn⟩
    refine ⟨_, rfl, _, rfl, _, rfl, small_tx (by omega) (by omega), rfl, _, rfl, ?_⟩
    by_cases e : z = tx (lo + (i : Nat))
    · rw [show decide (V.str z = V.str (toString (lo + (i : Int)))) = true from decide_eq_true (by rw [e]; rfl)]
      refine iteT ?_
      refine ⟨_, rfl, k1 _ ?_⟩
      unfold numM
      rw [find_at hi (fun j hj => decide_eq_false (hn j hj)) (decide_eq_true e)]
      rfl
    · rw [show decide (V.str z = V.str (toString (lo + (i : Int)))) = false from decide_eq_false (by intro q; exact e (V.str.inj q))]
      refine iteF ⟨rfl, ⟨_, rfl⟩, fun j hj => ?_⟩
      rcases Nat.lt_succ_iff_lt_or_eq.mp hj with q | q
      · exact hn j q
      · subst q; exact e
  · rintro σ H' ⟨rfl, ⟨v, rfl⟩, hn⟩
    refine k2 ?_
    unfold numM
    rw [find_none fun j hj => decide_eq_false (hn j hj)]
    rfl
theorem ok_name (F : Fun K "is_name" "is_name" s_is_name f fd) (T : Txt K mg C N) : FnOk P w K mg base CX0 1 f fd ["text"] spName := by
  refine F.ok sc_is_name (fun vs H Q E h => ?_) (fun cdv A outer s H vs Q E hr h => ?_)
  · obtain ⟨z, rfl, _⟩ := h
    rfl
  obtain ⟨z, rfl, hz, k⟩ := h
  refine ⟨_, pss_cons (ps_if (pt_not (pt_chain op_le op_le pe_int (pe_callB call_len_str (by rfl) T.len PySem.boot_len (pa_cons (pv 0) pa_nil)) (pe_gI T.gLN))) (pss_one (ps_ret pe_bl)) pss_nil)
    (pss_one (ps_ret (pe_callB (cr_all rfl) (by rfl) T.all (by decide +kernel) (pa_cons
      (pe_lc (own := [("sign", 1)]) (g := gName 1) rfl sc_is_name.nd (pi_str (pv 0)) (blkOk_by (N := ["text", "sign"]) (sc := defScope s_is_name) (by decide +kernel)) (fun _ _ _ _ _ => pg_name (i := 1) sc_is_name.nd rfl (Or.inl rfl)) (fun _ _ _ _ _ => pts_nil)
        (fun _ _ _ _ _ => pe_cmpR op_in_sign (pv 1) (pe_gS T.gLet) rfl)) pa_nil)))), ?_⟩
  refine ⟨_, rfl, _, rfl, big (by omega), _, _, rfl, rfl, _, rfl, ?_⟩
  by_cases c1 : (1 : Int) ≤ (z.length : Int)
  · rw [show decide ((1 : Int) ≤ (z.length : Int)) = true from decide_eq_true c1]
    refine iteT ⟨_, _, rfl, rfl, _, rfl, ?_⟩
    by_cases c2 : (z.length : Int) ≤ 6
    · rw [show decide ((z.length : Int) ≤ 6) = true from decide_eq_true c2]
      refine iteF ?_
      refine ⟨_, rfl, _, rfl, fun D hD => ?_⟩
      refine lc_it (walk_str (z := z)) (fun i H' => Same H H' ∧ H' D = some (.lst (((z.cps.toList.take i).map fun c => V.bl (decide (c ∈ LET)))))) ?_ (fun _ _ _ _ => trivial) ?_ ?_
      · exact ⟨same_new hD _, upd_same⟩
      · rintro i x H1 H2 hi ⟨s1, e1⟩ ⟨rfl, c, hc, rfl⟩
        have hc' : z.cps.toList[i]? = some c := by rw [Array.getElem?_toList]; exact hc
        have hi' : i < z.length := hi
        refine ⟨rfl, ?_⟩
        refine ⟨_, rfl, c, _, rfl, rfl, _, e1, ?_, ?_⟩
        · rw [List.length_map, List.length_take]
          exact small1000 (by omega)
        · refine ⟨same_upd s1 hD _, ?_⟩
          rw [upd_same, take_more hc', List.map_append]
          rfl
      · rintro H1 ⟨s1, e1⟩
        rw [List.take_of_length_le (by rw [Array.length_toList] <;> exact Nat.le_refl _)] at e1
        refine ⟨D, z.cps.toList.map fun c => decide (c ∈ LET), rfl, SqL.of (by rw [e1, List.map_map] <;> rfl), ?_⟩
        have e : nameM z = ((z.cps.toList.map fun c => decide (c ∈ LET)).all id) := by
          unfold nameM
          rw [decide_eq_true (show 1 ≤ z.length ∧ z.length ≤ 6 by omega), Bool.true_and, List.all_map]
          rfl
        rw [← e]
        exact k H1 s1
    · rw [show decide ((z.length : Int) ≤ 6) = false from decide_eq_false c2]
      refine iteT ?_
      have e : nameM z = false := by
        unfold nameM
        rw [decide_eq_false (show ¬ (1 ≤ z.length ∧ z.length ≤ 6) by omega), Bool.false_and]
      have q := k H (Same.refl H)
      rw [e] at q
      exact q
  · rw [show decide ((1 : Int) ≤ (z.length : Int)) = false from decide_eq_false c1]
    refine iteF ⟨_, rfl, ?_⟩
    refine iteT ?_
    have e : nameM z = false := by
      unfold nameM
      rw [decide_eq_false (show ¬ (1 ≤ z.length ∧ z.length ≤ 6) by omega), Bool.false_and]
    have q := k H (Same.refl H)
    rw [e] at q
    exact q
theorem kind_no {A : Prop} {a b : Str} (h : ¬ a = b) (q : A) : if decide (V.str a = V.str b) = true then False else A := by
  rw [decide_eq_false (by intro z; exact h (V.str.inj z))]
  exact iteF q
theorem ok_kind (F : Fun K "kind_of" "kind_of" s_kind_of f fd) (T : Txt K mg C N) : FnOk P w K mg base (L2.CX P w) 1 f fd ["sign"] (spKind N) := by
  refine F.okX sc_kind_of (fun vs H Q E h => ?_) (fun cdv A outer s H vs Q E hr h => ?_)
  · obtain ⟨z, rfl, _⟩ := h
    rfl
  obtain ⟨c, rfl, k1, k2⟩ := h
  refine ⟨_, pss_cons (ps_if (pt_cmpR op_in_sign (pv 0) (pe_gS T.gLet) rfl) (pss_one (ps_ret pe_str)) pss_nil)
    (pss_cons (ps_if (pt_cmpR op_in_sign (pv 0) (pe_gS T.gFig) rfl) (pss_one (ps_ret pe_str)) pss_nil)
    (pss_cons (ps_if (pt_cmpR op_in_sign (pv 0) (pe_gS T.gOth) rfl) (pss_one (ps_ret pe_str)) pss_nil)
    (pss_cons (ps_if (pt_cmpR op_eq (pv 0) pe_str (nomark _)) (pss_one (ps_ret pe_str)) pss_nil)
    (pss_one (ps_raise (W := fun cls d _ H => E cls d H) rfl (takes_of rfl rfl rfl rfl) (pmk_own PySem.F.excBase_ValueError T.xN T.gN T.kN (raises_own T.bN T.tN) rfl)))))), ?_⟩
  refine ⟨_, rfl, c, _, rfl, rfl, _, rfl, ?_⟩
  by_cases h1 : c ∈ LET
  · rw [show decide (c ∈ (("abcdefghijklmnopqrstuvwxyz" : Str)).cps.toList) = true from decide_eq_true h1]
    refine iteT (k1 .letter ?_)
    unfold kindM; rw [if_pos h1]
  rw [show decide (c ∈ (("abcdefghijklmnopqrstuvwxyz" : Str)).cps.toList) = false from decide_eq_false h1]
  refine iteF ⟨_, rfl, c, _, rfl, rfl, _, rfl, ?_⟩
  by_cases h2 : c ∈ FIG
  · rw [show decide (c ∈ (("0123456789" : Str)).cps.toList) = true from decide_eq_true h2]
    refine iteT (k1 .figure ?_)
    unfold kindM; rw [if_neg h1, if_pos h2]
  rw [show decide (c ∈ (("0123456789" : Str)).cps.toList) = false from decide_eq_false h2]
  refine iteF ⟨_, rfl, c, _, rfl, rfl, _, rfl, ?_⟩
  by_cases h3 : c ∈ OTH
  · rw [show decide (c ∈ (("+&|()[]" : Str)).cps.toList) = true from decide_eq_true h3]
    refine iteT (k1 .other ?_)
    unfold kindM; rw [if_neg h1, if_neg h2, if_pos h3]
  rw [show decide (c ∈ (("+&|()[]" : Str)).cps.toList) = false from decide_eq_false h3]
  refine iteF ⟨_, rfl, rfl, _, rfl, ?_⟩
  by_cases h4 : sg1 c = " "
  · rw [show decide (V.str (sg1 c) = V.str " ") = true from decide_eq_true (by rw [h4])]
    refine iteT (k1 .blank ?_)
    unfold kindM; rw [if_neg h1, if_neg h2, if_neg h3, if_pos h4]
  rw [show decide (V.str (sg1 c) = V.str " ") = false from decide_eq_false (by intro q; exact h4 (V.str.inj q))]
  refine iteF (k2 ?_)
  unfold kindM; rw [if_neg h1, if_neg h2, if_neg h3, if_neg h4]
end
end Aw

namespace Aw
open PySem L2
theorem kn_inj {a b : Kn} (h : a.nm = b.nm) : a = b := by
  revert h
  cases a <;> cases b <;> decide +kernel
theorem kn_dec (a b : Kn) : decide (V.str a.nm = V.str b.nm) = decide (a = b) := by
  cases a <;> cases b <;> decide +kernel
theorem kn_in (k : Kn) : inV (.str k.nm) [.str "letter", .str "figure"] = decide (k = .letter ∨ k = .figure) := by
  cases k <;> decide +kernel
theorem kn_blank (k : Kn) : (!decide (V.str k.nm = V.str "blank")) = decide (k ≠ .blank) := by
  cases k <;> decide +kernel
theorem ixN_last {n : Nat} (h0 : 0 < n) : ixN n (-1) = some (n - 1) := by
  unfold ixN
  rw [if_neg (by omega), if_pos (by omega)]
  exact congrArg some (by omega)
theorem at_last {xs : List V} {v : V} (h : xs[xs.length - 1]? = some v) (h0 : 0 < xs.length) : atI xs (-1) = some v := by
  unfold atI
  rw [ixN_last h0]
  exact h
theorem map_addLast {ws : List Str} {c : Nat} : (ws.map V.str).set (ws.length - 1) (.str (wd ws (ws.length - 1) ++ sg1 c)) = (addLast ws c).map V.str := by
  unfold addLast
  rw [List.map_set]
/-- what holds of the words between two signs -/
structure LexOk (z : Str) (i : Nat) (ws : List Str) (b : Kn) : Prop where
  go : lexGo (z.cps.toList.drop i) ws b = lexM z
  ne : b = .letter ∨ b = .figure → 0 < ws.length
  ln : ws.length ≤ i
  wl : ∀ w ∈ ws, w.length ≤ i
theorem mem_addLast {ws : List Str} {c : Nat} {w : Str} {i : Nat} (hw : ∀ w ∈ ws, w.length ≤ i) (h : w ∈ addLast ws c) : w.length ≤ i + 1 := by
  unfold addLast at h
  rcases List.mem_or_eq_of_mem_set h with q | q
  · exact Nat.le_succ_of_le (hw _ q)
  · subst q
    rw [len_app, len_sg1]
    rcases Nat.lt_or_ge (ws.length - 1) ws.length with q | q
    · exact Nat.succ_le_succ (hw _ (List.mem_of_getElem? (wd_get q)))
    · rw [wd_end (by omega)]
      show 0 + 1 ≤ i + 1
      omega
theorem LexOk.step {z : Str} {i c : Nat} {ws : List Str} {b k : Kn} (h : LexOk z i ws b) (hc : z.cps.toList[i]? = some c) (hk : kindM c = some k) : LexOk z (i + 1) (lexStep (ws, b) c k) k := by
  have hi : i < z.cps.toList.length := (List.getElem?_eq_some_iff.mp hc).1
  have e : z.cps.toList.drop i = c :: z.cps.toList.drop (i + 1) := by
    rw [List.drop_eq_getElem_cons hi]
    have : z.cps.toList[i] = c := by
      have q := List.getElem?_eq_getElem hi
      rw [hc] at q
      exact (Option.some.inj q).symm
    rw [this]
  have g := h.go
  rw [e] at g
  unfold lexGo at g
  rw [hk] at g
  have wl := h.wl
  have ln := h.ln
  have ne := h.ne
  refine ⟨g, ?_, ?_, ?_⟩
  · intro hb
    unfold lexStep
    by_cases h1 : k = b ∧ (k = .letter ∨ k = .figure)
    · rw [if_pos h1]
      unfold addLast
      rw [List.length_set]
      exact ne (h1.1 ▸ h1.2)
    · rw [if_neg h1, if_pos (by intro z; subst z; rcases hb with q | q <;> cases q)]
      rw [List.length_append]
      exact Nat.lt_of_lt_of_le Nat.zero_lt_one (Nat.le_add_left _ _)
  · unfold lexStep
    dsimp only
    split
    · unfold addLast
      rw [List.length_set]; omega
    · split
      · rw [List.length_append, List.length_singleton]; omega
      · omega
  · intro w hw
    unfold lexStep at hw
    dsimp only at hw
    split at hw
    · exact mem_addLast wl hw
    · split at hw
      · rcases List.mem_append.mp hw with q | q
        · exact Nat.le_succ_of_le (wl _ q)
        · rw [List.mem_singleton.mp q, len_sg1]; omega
      · exact Nat.le_succ_of_le (wl _ hw)
theorem LexOk.none {z : Str} {i c : Nat} {ws : List Str} {b : Kn} (h : LexOk z i ws b) (hc : z.cps.toList[i]? = some c) (hk : kindM c = none) : lexM z = none := by
  have hi : i < z.cps.toList.length := (List.getElem?_eq_some_iff.mp hc).1
  have e : z.cps.toList.drop i = c :: z.cps.toList.drop (i + 1) := by
    rw [List.drop_eq_getElem_cons hi]
    have : z.cps.toList[i] = c := by
      have q := List.getElem?_eq_getElem hi
      rw [hc] at q
      exact (Option.some.inj q).symm
    rw [this]
  have g := h.go
  rw [e] at g
  unfold lexGo at g
  rw [hk] at g
  exact g.symm
section
variable {P : Program} {w : World} {K : PySem.W.Frag} {mg : Str → Option Value} {base : Heap} {C N : Addr} {f : Addr} {fd : FuncData}
theorem ok_words {g : Addr} {gd : FuncData} (F : Fun K "words_of" "words_of" s_words_of f fd) (T : Txt K mg C N) (GK : FnOk P w K mg base (L2.CX P w) 1 g gd ["sign"] (spKind N)) (bK : Binds K gd ["sign"] []) (kK : PySem.W.keepIn K (.ref g) = true) (mK : mg "kind_of" = some (.ref g)) :
    FnOk P w K mg base (L2.CX P w) 2 f fd ["text"] (spWords N) := by
  refine F.okX sc_words_of (fun vs H Q E h => ?_) (fun cdv A outer s H vs Q E hr h => ?_)
  · obtain ⟨z, rfl, _⟩ := h
    rfl
  obtain ⟨z, rfl, hz, k1, k2⟩ := h
  have nd := sc_words_of.nd
  refine ⟨_, pss_cons (ps_set (i := 1) nd rfl (.inl rfl) (pe_lst pa_nil))
    (pss_cons (ps_set (i := 2) nd rfl (.inl rfl) pe_str)
    (pss_cons (ps_for (passes_of rfl) rfl (pi_str (pv 0)) (pg_name (i := 3) nd rfl (.inl rfl))
      (pss_cons (ps_set (i := 4) nd rfl (.inl rfl) (pe_call (E := E) GK hr rfl mK kK bK .nil (passes_call (W := fun cls d _ H => E cls d H) (takes_of rfl rfl rfl rfl) (fun _ _ _ _ h => h)) (pa_cons (pv 3) pa_nil)))
      (pss_cons (ps_if (PW.pt (pw_and (pt_cmpR op_eq (pv 4) (pv 2) (nomark _)) (pw_and1 (pt_cmpR op_in_seq (pv 4) (pe_tup (pa_cons pe_str (pa_cons pe_str pa_nil))) rfl))))
        (pss_one (ps_augS (pv 1) (pe_un un_neg pe_int) get_list (pv 3) in_addS set_list))
        (pss_one (ps_if (pt_cmpR op_ne (pv 4) pe_str (nomark _)) (pss_one (ps_expr (pe_bm PySem.F.plainAttrs_list PySem.F.slot_list_append PySem.F.type_list_append mt_append (pv 1) (pa_cons (pv 3) pa_nil)))) pss_nil)))
      (pss_one (ps_set (i := 2) nd rfl (.inl rfl) (pv 4))))))
    (pss_one (ps_ret (pv 1))))), ?_⟩
  refine ⟨(by show 0 ≤ sizeLine; decide), fun l hl => ?_⟩
  refine ⟨_, rfl, _, rfl, ?_⟩
  refine for_it (walk_str (z := z)) (fun i σ H' => ∃ (ws : List Str) (b : Kn) (v3 v4 : Option V), σ = [some (.str z), some (.ref l), some (.str b.nm), v3, v4] ∧ Same H H' ∧ H' l = some (.lst (ws.map V.str)) ∧ LexOk z i ws b)
    ⟨[], .blank, none, none, rfl, same_new hl _, upd_same, ⟨rfl, (by intro q; rcases q with q | q <;> cases q), Nat.le_refl _, fun _ h => by cases h⟩⟩ (fun _ _ _ _ _ => trivial) ?_ ?_
  · rintro i x σ H1 H2 hi ⟨ws, b, v3, v4, rfl, s1, e1, L⟩ ⟨rfl, c, hc, rfl⟩
    have hc' : z.cps.toList[i]? = some c := by rw [Array.getElem?_toList]; exact hc
    have hi' : i < z.length := hi
    refine ⟨_, rfl, c, rfl, fun k hk => ?_, fun hk => k2 (L.none hc' hk) _ s1⟩
    have L' := L.step hc' hk
    have wl := L.wl
    have ln := L.ln
    -- the two other ways: append, or nothing
    have other : ¬ (k = b ∧ (k = .letter ∨ k = .figure)) → ∀ H3, Same H H3 → H3 l = some (.lst (ws.map V.str)) → ∀ D : Ends, (∀ H4, Same H H4 → H4 l = some (.lst ((lexStep (ws, b) c k).map V.str)) → D.nx [some (.str z), some (.ref l), some (.str b.nm), some (.str (sg1 c)), some (.str k.nm)] H4) →
        (tIfS (tTest (tOp rNe (tVar 4) (tC (.str "blank")))) (tDrop (tBM K "list" (rAppend) (tVar 1) (tCons (tVar 3) tNil))) tNext) D [some (.str z), some (.ref l), some (.str b.nm), some (.str (sg1 c)), some (.str k.nm)] H3 := by
      intro hn H3 s3 e3 D q
      refine ⟨_, rfl, rfl, _, rfl, ?_⟩
      rw [kn_blank]
      unfold lexStep at q
      rw [if_neg hn] at q
      by_cases hb : k = .blank
      · rw [decide_eq_false (not_not_intro hb)]
        rw [if_neg (not_not_intro hb)] at q
        exact iteF (q H3 s3 e3)
      · rw [decide_eq_true hb]
        rw [if_pos hb] at q
        refine iteT ⟨_, rfl, .inl ⟨rfl, _, SqL.of e3⟩, _, rfl, l, _, _, rfl, rfl, e3, ?_, ?_⟩
        · rw [List.length_map]; exact small1000 (by omega)
        · refine q _ (same_upd s3 hl _) ?_
          rw [upd_same, List.map_append]
          rfl
    refine ⟨_, rfl, _, rfl, rfl, _, rfl, ?_⟩
    rw [kn_dec]
    by_cases hkb : k = b
    · rw [decide_eq_true hkb]
      refine iteT ⟨_, rfl, (by show 2 ≤ sizeLine; decide), fun p hp => ?_⟩
      refine ⟨p, _, rfl, .inr (SqT.of upd_same), rfl, rfl, _, rfl, ?_⟩
      rw [show (if false = true then !inV (V.str k.nm) [.str "letter", .str "figure"] else inV (V.str k.nm) [.str "letter", .str "figure"]) = decide (k = .letter ∨ k = .figure) from kn_in k]
      have npl : l ≠ p := ne_of_none e1 hp
      by_cases h2 : k = .letter ∨ k = .figure
      · rw [decide_eq_true h2]
        refine iteT ?_
        have h0 : 0 < ws.length := L.ne (hkb ▸ h2)
        have hw : wd ws (ws.length - 1) ∈ ws := List.mem_of_getElem? (wd_get (by omega))
        refine ⟨_, rfl, _, rfl, l, _, _, _, rfl, rfl, SqL.of (by rw [upd_ne npl]; exact e1), at_last (v := .str (wd ws (ws.length - 1))) ?_ (by rw [List.length_map]; exact h0), _, rfl, _, _, rfl, rfl, ?_, l, _, _, ws.length - 1, rfl, rfl, (by rw [upd_ne npl]; exact e1), ?_, ?_⟩
        · rw [List.length_map, List.getElem?_map, wd_get (by omega)]
          rfl
        · have := wl _ hw
          exact big (by show (wd ws (ws.length - 1)).length + 1 ≤ 100000; omega)
        · rw [List.length_map]; exact ixN_last h0
        · have el : lexStep (ws, b) c k = addLast ws c := by
            unfold lexStep
            rw [if_pos ⟨hkb, h2⟩]
          refine ⟨_, rfl, ?_⟩
          refine ⟨addLast ws c, k, _, _, rfl, same_upd (same_upd s1 (s1.free hp) _) hl _, (by rw [upd_same]; exact congrArg (fun l => some (HO.lst l)) map_addLast), ?_⟩
          rw [el] at L'
          exact L'
      · rw [decide_eq_false h2]
        refine iteF ?_
        exact other (fun q => h2 q.2) _ (same_upd s1 (s1.free hp) _) (by rw [upd_ne npl]; exact e1) _ fun H4 s4 e4 => ⟨_, rfl, _, k, _, _, rfl, s4, e4, L'⟩
    · rw [decide_eq_false hkb]
      refine iteF ?_
      exact other (fun q => hkb q.1) _ s1 e1 _ fun H4 s4 e4 => ⟨_, rfl, _, k, _, _, rfl, s4, e4, L'⟩
  · rintro σ H1 ⟨ws, b, v3, v4, rfl, s1, e1, L⟩
    refine ⟨_, rfl, k1 ws ?_ l _ s1 hl e1⟩
    have g := L.go
    rw [List.drop_of_length_le (by rw [Array.length_toList] <;> exact Nat.le_refl _)] at g
    exact g.symm
end
end Aw

namespace Aw
open PySem L2
/-! ### the pieces' makers -/
def spNumP : Sp := fun vs H Q _ => ∃ n, vs = [.int n] ∧ ∀ v H', Same H H' → TA H' v (.num n) → Q v H'
def spNameP : Sp := fun vs H Q _ => ∃ s, vs = [.str s] ∧ ∀ v H', Same H H' → TA H' v (.name s) → Q v H'
def spGateP : Sp := fun vs H Q _ => ∃ s b v t, vs = [.str s, .int b, v] ∧ TA H v t ∧ ∀ v' H', Same H H' → TA H' v' (.gate s b t) → Q v' H'
def spJoinP : Sp := fun vs H Q _ => ∃ (k : Kd) (l : Addr) (xs : List V) (ts : List T), vs = [.str k.nm, .ref l] ∧ H l = some (.lst xs) ∧ TAs H xs ts ∧ ∀ v' H', Same H H' → TA H' v' (.join k ts) → Q v' H'
def spGate (C N : Addr) (f : List Str → Nat → Option (T × Nat)) (dp : Int) : Sp := fun vs H Q E => ∃ p l ws i, vs = [.ref p, .int dp] ∧ RdAt C p l ws i H ∧ WsOk ws ∧ RdOut C N p l ws H Q E (gateM ws (f ws) i)
/-- the constants that are objects of the top -/
structure TxtC (K : PySem.W.Frag) (mg : Str → Option Value) (w : World) : Prop where
  gLv : ∃ a, mg "LEVELS" = some (.ref a) ∧ ∀ H, SqT K H a [.str "most", .str "least", .str "sum"]
  gSg : ∃ a, mg "SIGNS" = some (.ref a) ∧ ∀ k : Kd, KDct K w a k.nm (.str k.sg)
def Adv (f : List Str → Nat → Option (T × Nat)) : Prop := ∀ ws i t j, f ws i = some (t, j) → i < j
theorem chain_adv {ws : List Str} {f : Nat → Option (T × Nat)} (ha : ∀ i t j, f i = some (t, j) → i < j) {sg : Str} : ∀ (n : Nat) {ts ts' : List T} {j j' : Nat}, chainM ws f sg n ts j = some (ts', j') → j ≤ j'
  | 0, _, _, _, _, h => by simp [chainM] at h
  | n + 1, ts, ts', j, j', h => by
    unfold chainM at h
    by_cases c : wd ws j = sg
    · rw [if_pos c] at h
      cases e : f (j + 1) with
      | none => rw [e] at h; cases h
      | some r =>
        obtain ⟨t, k⟩ := r
        rw [e] at h
        have h1 := ha _ _ _ e
        have h2 := chain_adv ha n h
        omega
    · rw [if_neg c] at h
      cases h
      exact Nat.le_refl _
theorem level_adv {f : List Str → Nat → Option (T × Nat)} (ha : Adv f) : ∀ (ks : List Kd), Adv fun ws => levelM ws (f ws) ks
  | [] => fun ws i t j h => ha ws i t j h
  | k :: ks => fun ws i t j h => by
    have ih := level_adv ha ks ws
    dsimp only at h
    unfold levelM at h
    cases e : levelM ws (f ws) ks i with
    | none => rw [e] at h; cases h
    | some r =>
      obtain ⟨t1, j1⟩ := r
      rw [e] at h
      dsimp only at h
      have h1 := ih _ _ _ e
      cases e2 : chainM ws (levelM ws (f ws) ks) k.sg (ws.length + 1) [t1] j1 with
      | none => rw [e2] at h; cases h
      | some r2 =>
        obtain ⟨ts, j2⟩ := r2
        rw [e2] at h
        dsimp only at h
        have h2 := chain_adv (fun i t j q => ih i t j q) _ e2
        cases e3 : joinM k ts with
        | none => rw [e3] at h; cases h
        | some t3 =>
          rw [e3] at h
          cases h
          omega
theorem gate_adv {f : List Str → Nat → Option (T × Nat)} (ha : Adv f) : Adv fun ws => gateM ws (f ws) := fun ws i t j h => by
  dsimp only at h
  unfold gateM at h
  split at h
  · split at h
    · cases h
    · split at h
      · cases e : f ws (i + 3) with
        | none => rw [e] at h; cases h
        | some r =>
          rw [e] at h
          cases h
          have := ha ws (i + 3) r.1 r.2 e
          omega
      · cases h
  · cases h
theorem piece_adv : ∀ d : Nat, Adv fun ws => pieceM ws d
  | 0 => fun ws i t j h => by simp [pieceM] at h
  | d + 1 => fun ws i t j h => by
    have ih := piece_adv d
    dsimp only at h
    unfold pieceM at h
    split at h
    · split at h
      · cases h
      · rename_i t1 j1 e
        have h1 := level_adv ih kinds ws _ _ _ e
        split at h
        · cases h; omega
        · cases h
    · split at h
      · have := gate_adv ih ws _ _ _ h
        omega
      · split at h
        · cases h; omega
        · cases e : numM 0 (wd ws i) with
          | none => rw [e] at h; cases h
          | some n => rw [e] at h; cases h; omega
section
variable {P : Program} {w : World} {K : PySem.W.Frag} {mg : Str → Option Value} {base : Heap} {C N : Addr} {f : Addr} {fd : FuncData}
theorem ok_numP (F : Fun K "number_piece" "number_piece" s_number_piece f fd) : FnOk P w K mg base CX0 1 f fd ["number"] spNumP := by
  refine F.ok sc_number_piece (fun vs H Q E h => ?_) (fun cdv A outer s H vs Q E hr h => ?_)
  · obtain ⟨n, rfl, _⟩ := h
    rfl
  obtain ⟨n, rfl, k⟩ := h
  refine ⟨_, pss_one (ps_ret (pe_tup (pa_cons pe_str (pa_cons (pv 0) pa_nil)))), ?_⟩
  exact ⟨_, rfl, (by show 2 ≤ sizeLine; decide), fun p hp => k _ _ (same_new hp _) (.num upd_same)⟩
theorem ok_nameP (F : Fun K "name_piece" "name_piece" s_name_piece f fd) : FnOk P w K mg base CX0 1 f fd ["name"] spNameP := by
  refine F.ok sc_name_piece (fun vs H Q E h => ?_) (fun cdv A outer s H vs Q E hr h => ?_)
  · obtain ⟨n, rfl, _⟩ := h
    rfl
  obtain ⟨n, rfl, k⟩ := h
  refine ⟨_, pss_one (ps_ret (pe_tup (pa_cons pe_str (pa_cons (pv 0) pa_nil)))), ?_⟩
  exact ⟨_, rfl, (by show 2 ≤ sizeLine; decide), fun p hp => k _ _ (same_new hp _) (.name upd_same)⟩
theorem ok_gateP (F : Fun K "gate_piece" "gate_piece" s_gate_piece f fd) : FnOk P w K mg base CX0 1 f fd ["name", "bound", "piece"] spGateP := by
  refine F.ok sc_gate_piece (fun vs H Q E h => ?_) (fun cdv A outer s H vs Q E hr h => ?_)
  · obtain ⟨s, b, v, t, rfl, _⟩ := h
    rfl
  obtain ⟨s, b, v, t, rfl, ht, k⟩ := h
  refine ⟨_, pss_one (ps_ret (pe_tup (pa_cons pe_str (pa_cons (pv 0) (pa_cons (pv 1) (pa_cons (pv 2) pa_nil)))))), ?_⟩
  exact ⟨_, rfl, _, rfl, _, rfl, (by show 4 ≤ sizeLine; decide), fun p hp => k _ _ (same_new hp _) (.gate upd_same (ht.mono (.of_same (same_new hp _))))⟩
theorem ok_joinP (F : Fun K "joined_piece" "joined_piece" s_joined_piece f fd) (tup : mg "tuple" = none) : FnOk P w K mg base CX0 1 f fd ["kind", "pieces"] spJoinP := by
  refine F.ok sc_joined_piece (fun vs H Q E h => ?_) (fun cdv A outer s H vs Q E hr h => ?_)
  · obtain ⟨kd, l, xs, ts, rfl, _⟩ := h
    rfl
  obtain ⟨kd, l, xs, ts, rfl, hl, ht, k⟩ := h
  refine ⟨_, pss_one (ps_ret (pe_tup (pa_cons (pv 0) (pa_cons (pe_callTy call_tuple_of (by rfl) tup (by decide +kernel) (pa_cons (pv 1) pa_nil)) pa_nil)))), ?_⟩
  refine ⟨_, rfl, _, rfl, l, xs, rfl, .inl ⟨SqL.of hl, fun q hq => ?_⟩⟩
  refine ⟨(by show 2 ≤ sizeLine; decide), fun p hp => ?_⟩
  have s1 := same_new hq (.tup xs)
  have s2 := same_new hp (.tup [.str kd.nm, .ref q])
  exact k _ _ (s1.trans s2) (.join upd_same (s2 _ _ upd_same) (ht.mono (.of_same (s1.trans s2))))
theorem RdOut.mono {C N p l : Addr} {ws : List Str} {H H1 : Hp} {Q : VK} {E : XK} {o : Option (T × Nat)} (b : But p H H1) (h : RdOut C N p l ws H Q E o) : RdOut C N p l ws H1 Q E o := by
  cases o with
  | none => exact fun H' b' => h H' (b.trans b')
  | some r => exact fun v H' b' => h v H' (b.trans b')
/-- every call of a method that raises nothing -/
theorem RdAt.dx {C p l : Addr} {ws : List Str} {i : Nat} {H : Hp} (h : RdAt C p l ws i H) : ∃ dx, H p = some (.ins C dx (rflds l i)) := h.ob
theorem str_dec (a b : Str) : decide (V.str a = V.str b) = decide (a = b) := by
  by_cases h : a = b
  · rw [decide_eq_true h, decide_eq_true (by rw [h])]
  · rw [decide_eq_false h, decide_eq_false (by intro q; exact h (V.str.inj q))]
theorem ok_piece0 (F : Fun K "read_piece" "read_piece" s_read_piece f fd) (T : Txt K mg C N) {k : Nat} : FnOk P w K mg base (L2.CX P w) (k + 1) f fd ["reader", "deep"] (spPiece C N (fun ws => pieceM ws 0) 3) := by
  refine F.okX sc_read_piece (fun vs H Q E h => ?_) (fun cdv A outer s H vs Q E hr h => ?_)
  · obtain ⟨p, l, ws, i, rfl, _⟩ := h
    rfl
  obtain ⟨p, l, ws, i, rfl, R, W, q⟩ := h
  refine ⟨_, pss_cons (ps_if (pt_cmpR op_gt (pv 1) (pe_gI T.gDe) (nomark _)) (pss_one (ps_raise (W := fun cls d _ H => E cls d H) rfl (takes_of rfl rfl rfl rfl) (pmk_own PySem.F.excBase_ValueError T.xN T.gN T.kN (raises_own T.bN T.tN) rfl))) pss_nil)
    (pss_cons ps_never (pss_cons ps_never (pss_cons ps_never (pss_cons ps_never (pss_one ps_never))))), ?_⟩
  refine ⟨_, rfl, _, _, rfl, rfl, _, rfl, iteT ?_⟩
  exact q H (But.refl p H)
structure Mths (K : PySem.W.Frag) (C fA fT fX : Addr) : Prop where
  mA : Meth K C "ahead" fA
  mT : Meth K C "taken" fT
  mX : Meth K C "expect" fX
/-- the smaller defs as they are called by the reading -/
structure Low (P : Program) (w : World) (K : PySem.W.Frag) (mg : Str → Option Value) (base : Heap) (C N : Addr) : Prop where
  A : ∃ f fd, FnOk P w K mg base CX0 1 f fd ["self"] (spAhead C) ∧ Binds K fd ["self"] [] ∧ Meth K C "ahead" f
  T : ∃ f fd, FnOk P w K mg base CX0 2 f fd ["self"] (spTaken C) ∧ Binds K fd ["self"] [] ∧ Meth K C "taken" f
  X : ∃ f fd, FnOk P w K mg base (L2.CX P w) 3 f fd ["self", "word"] (spExpect C N) ∧ Binds K fd ["self", "word"] [] ∧ Meth K C "expect" f
  nm : ∃ f fd, FnOk P w K mg base CX0 1 f fd ["text"] spName ∧ Binds K fd ["text"] [] ∧ PySem.W.keepIn K (.ref f) = true ∧ mg "is_name" = some (.ref f)
  nu : ∃ f fd, FnOk P w K mg base (L2.CX P w) 1 f fd ["word", "lowest"] (spNum N) ∧ Binds K fd ["word", "lowest"] [] ∧ PySem.W.keepIn K (.ref f) = true ∧ mg "number_of" = some (.ref f)
  pN : ∃ f fd, FnOk P w K mg base CX0 1 f fd ["number"] spNumP ∧ Binds K fd ["number"] [] ∧ PySem.W.keepIn K (.ref f) = true ∧ mg "number_piece" = some (.ref f)
  pS : ∃ f fd, FnOk P w K mg base CX0 1 f fd ["name"] spNameP ∧ Binds K fd ["name"] [] ∧ PySem.W.keepIn K (.ref f) = true ∧ mg "name_piece" = some (.ref f)
  pG : ∃ f fd, FnOk P w K mg base CX0 1 f fd ["name", "bound", "piece"] spGateP ∧ Binds K fd ["name", "bound", "piece"] [] ∧ PySem.W.keepIn K (.ref f) = true ∧ mg "gate_piece" = some (.ref f)
  pJ : ∃ f fd, FnOk P w K mg base CX0 1 f fd ["kind", "pieces"] spJoinP ∧ Binds K fd ["kind", "pieces"] [] ∧ PySem.W.keepIn K (.ref f) = true ∧ mg "joined_piece" = some (.ref f)
theorem len_lit {n : Nat} {z : Str} (h : z.length = n) (hn : n ≤ 1000) : z.length ≤ 1000 := h ▸ hn
theorem ok_gate {fs : List Str → Nat → Option (Aw.T × Nat)} {dp : Int} {g : Addr} {gd : FuncData} {k : Nat} (hk : 3 ≤ k) (F : Fun K "read_gate" "read_gate" s_read_gate f fd) (T : Txt K mg C N) (L : Low P w K mg base C N)
    (GP : FnOk P w K mg base (L2.CX P w) k g gd ["reader", "deep"] (spPiece C N fs (dp + 1))) (bP : Binds K gd ["reader", "deep"] []) (kP : PySem.W.keepIn K (.ref g) = true) (mP : mg "read_piece" = some (.ref g)) :
    FnOk P w K mg base (L2.CX P w) (k + 1) f fd ["reader", "deep"] (spGate C N fs dp) := by
  obtain ⟨fT, dT, GT, bT, mT⟩ := L.T
  obtain ⟨fX, dX, GX, bX, mX⟩ := L.X
  obtain ⟨fn, dn, Gn, bn, kn, mn⟩ := L.nm
  obtain ⟨fu, du, Gu, bu, ku, mu⟩ := L.nu
  obtain ⟨fg, dg, Gg, bg, kg, mg'⟩ := L.pG
  refine F.okX sc_read_gate (fun vs H Q E h => ?_) (fun cdv A outer s H vs Q E hr h => ?_)
  · obtain ⟨p, l, ws, i, rfl, _⟩ := h
    rfl
  obtain ⟨p, l, ws, i, rfl, R, W, q⟩ := h
  have nd := sc_read_gate.nd
  have hr1 : Room 1 _ := hr.mono (by omega)
  have hr2 : Room 2 _ := hr.mono (by omega)
  have hr3 : Room 3 _ := hr.mono (by omega)
  refine ⟨_, pss_cons (ps_set (i := 2) nd rfl (.inl rfl) (pe_meth0 (pv 0) T.cl mT GT hr2 bT .nil pass0))
    (pss_cons (ps_if (pt_not (pt_val (pe_call Gn hr1 rfl mn kn bn .nil pass0 (pa_cons (pv 2) pa_nil))))
      (pss_one (ps_raise (W := fun cls d _ H => E cls d H) rfl (takes_of rfl rfl rfl rfl) (pmk_own PySem.F.excBase_ValueError T.xN T.gN T.kN (raises_own T.bN T.tN) rfl))) pss_nil)
    (pss_cons (ps_set (i := 3) nd rfl (.inl rfl) (pe_call (E := E) Gu hr1 rfl mu ku bu .nil (passes_call (W := fun cls d _ H => E cls d H) (takes_of rfl rfl rfl rfl) (fun _ _ _ _ h => h)) (pa_cons (pe_meth0 (pv 0) T.cl mT GT hr2 bT .nil pass0) (pa_cons pe_int pa_nil))))
    (pss_cons (ps_expr (pe_meth (E := E) (pv 0) T.cl mX GX hr3 bX .nil (passes_call (W := fun cls d _ H => E cls d H) (takes_of rfl rfl rfl rfl) (fun _ _ _ _ h => h)) (pa_cons pe_str pa_nil)))
    (pss_one (ps_ret (pe_call Gg hr1 rfl mg' kg bg .nil pass0 (pa_cons (pv 2) (pa_cons (pv 3) (pa_cons
      (pe_call (E := E) GP hr rfl mP kP bP .nil (passes_call (W := fun cls d _ H => E cls d H) (takes_of rfl rfl rfl rfl) (fun _ _ _ _ h => h)) (pa_cons (pv 0) (pa_cons (pe_op op_add (pv 1) pe_int) pa_nil))) pa_nil))))))))), ?_⟩
  have an : ∀ i, (rflds l i).lookup ("taken" : Str) = none := fun i => rflds_no _ _ (by decide +kernel) (by decide +kernel)
  have ax : ∀ i, (rflds l i).lookup ("expect" : Str) = none := fun i => rflds_no _ _ (by decide +kernel) (by decide +kernel)
  obtain ⟨dx, hp⟩ := R.ob
  refine ⟨_, rfl, p, dx, _, rfl, hp, an _, p, l, ws, i, rfl, R, fun H1 b1 R1 => ?_⟩
  refine ⟨_, rfl, wd ws i, rfl, W.wd i, fun H2 s2 => ?_⟩
  have R2 := R1.mono s2
  have b2 : But p H H2 := b1.trans (.of_same s2)
  refine ⟨_, rfl, ?_⟩
  unfold gateM at q
  cases e : nameM (wd ws i) with
  | false =>
    rw [e, if_neg Bool.false_ne_true] at q
    exact iteT (q H2 b2)
  | true =>
    rw [e, if_pos rfl] at q
    refine iteF ?_
    obtain ⟨dx2, hp2⟩ := R2.ob
    refine ⟨_, rfl, p, dx2, _, rfl, hp2, an _, p, l, ws, i + 1, rfl, R2, fun H3 b3 R3 => ?_⟩
    have b3' := b2.trans b3
    refine ⟨wd ws (i + 1), 1, rfl, by decide, by decide, fun n hn => ?_, fun hn => ?_⟩
    · rw [hn] at q
      dsimp only at q
      obtain ⟨dx3, hp3⟩ := R3.ob
      refine ⟨_, rfl, p, dx3, _, rfl, hp3, ax _, p, l, ws, i + 1 + 1, "]", rfl, R3, (by decide +kernel), W.ws, fun e2 H4 b4 R4 => ?_, fun e2 H4 b4 => ?_⟩
      · rw [show wd ws (i + 2) = "]" from e2, if_pos rfl] at q
        have b4' := b3'.trans b4
        refine ⟨_, rfl, _, rfl, _, rfl, _, rfl, _, _, rfl, rfl, p, l, ws, i + 3, rfl, R4, W, ?_⟩
        cases e3 : fs ws (i + 3) with
        | none =>
          rw [e3] at q
          exact fun H5 b5 => q H5 (b4'.trans b5)
        | some r =>
          obtain ⟨t, j⟩ := r
          rw [e3] at q
          intro v H5 b5 R5 tv
          refine ⟨wd ws i, n, v, t, rfl, tv, fun v' H6 s6 tv' => ?_⟩
          exact q v' H6 ((b4'.trans b5).trans (.of_same s6)) (R5.mono s6) tv'
      · rw [if_neg (show ¬ wd ws (i + 2) = "]" from e2)] at q
        exact q H4 (b3'.trans b4)
    · rw [hn] at q
      exact q H3 b3'
end
end Aw

namespace Aw
open PySem L2
section
variable {P : Program} {w : World} {K : PySem.W.Frag} {mg : Str → Option Value} {base : Heap} {C N : Addr} {f : Addr} {fd : FuncData}
theorem ok_pieceS {d : Nat} {dp : Int} (hdp : dp ≤ 2) {gl gg : Addr} {ld gd : FuncData} {k : Nat} (hk : 3 ≤ k) (F : Fun K "read_piece" "read_piece" s_read_piece f fd) (T : Txt K mg C N) (L : Low P w K mg base C N)
    (GL : FnOk P w K mg base (L2.CX P w) k gl ld ["reader", "level", "deep"] (spLevel C N kinds (fun ws => pieceM ws d) 0 (dp + 1))) (bL : Binds K ld ["reader", "level", "deep"] []) (kL : PySem.W.keepIn K (.ref gl) = true) (mL : mg "read_level" = some (.ref gl))
    (GG : FnOk P w K mg base (L2.CX P w) k gg gd ["reader", "deep"] (spGate C N (fun ws => pieceM ws d) dp)) (bG : Binds K gd ["reader", "deep"] []) (kG : PySem.W.keepIn K (.ref gg) = true) (mG : mg "read_gate" = some (.ref gg)) :
    FnOk P w K mg base (L2.CX P w) (k + 1) f fd ["reader", "deep"] (spPiece C N (fun ws => pieceM ws (d + 1)) dp) := by
  obtain ⟨fT, dT, GT, bT, mT⟩ := L.T
  obtain ⟨fX, dX, GX, bX, mX⟩ := L.X
  obtain ⟨fn, dn, Gn, bn, kn, mn⟩ := L.nm
  obtain ⟨fu, du, Gu, bu, ku, mu⟩ := L.nu
  obtain ⟨fs, ds, Gs, bs, ks, ms⟩ := L.pS
  obtain ⟨fN, dN, GN, bN, kN, mN⟩ := L.pN
  refine F.okX sc_read_piece (fun vs H Q E h => ?_) (fun cdv A outer s H vs Q E hr h => ?_)
  · obtain ⟨p, l, ws, i, rfl, _⟩ := h
    rfl
  obtain ⟨p, l, ws, i, rfl, R, W, q⟩ := h
  have nd := sc_read_piece.nd
  have hr1 : Room 1 _ := hr.mono (by omega)
  have hr2 : Room 2 _ := hr.mono (by omega)
  have hr3 : Room 3 _ := hr.mono (by omega)
  refine ⟨_, pss_cons (ps_if (pt_cmpR op_gt (pv 1) (pe_gI T.gDe) (nomark _)) (pss_one (ps_raise (W := fun cls d _ H => E cls d H) rfl (takes_of rfl rfl rfl rfl) (pmk_own PySem.F.excBase_ValueError T.xN T.gN T.kN (raises_own T.bN T.tN) rfl))) pss_nil)
    (pss_cons (ps_set (i := 2) nd rfl (.inl rfl) (pe_meth0 (pv 0) T.cl mT GT hr2 bT .nil pass0))
    (pss_cons (ps_if (pt_cmpR op_eq (pv 2) pe_str (nomark _))
      (pss_cons (ps_set (i := 3) nd rfl (.inl rfl) (pe_call (E := E) GL hr rfl mL kL bL .nil (passes_call (W := fun cls d _ H => E cls d H) (takes_of rfl rfl rfl rfl) (fun _ _ _ _ h => h)) (pa_cons (pv 0) (pa_cons pe_int (pa_cons (pe_op op_add (pv 1) pe_int) pa_nil)))))
      (pss_cons (ps_expr (pe_meth (E := E) (pv 0) T.cl mX GX hr3 bX .nil (passes_call (W := fun cls d _ H => E cls d H) (takes_of rfl rfl rfl rfl) (fun _ _ _ _ h => h)) (pa_cons pe_str pa_nil)))
      (pss_one (ps_ret (pv 3))))) pss_nil)
    (pss_cons (ps_if (pt_cmpR op_eq (pv 2) pe_str (nomark _))
      (pss_one (ps_ret (pe_call (E := E) GG hr rfl mG kG bG .nil (passes_call (W := fun cls d _ H => E cls d H) (takes_of rfl rfl rfl rfl) (fun _ _ _ _ h => h)) (pa_cons (pv 0) (pa_cons (pv 1) pa_nil))))) pss_nil)
    (pss_cons (ps_if (pt_val (pe_call Gn hr1 rfl mn kn bn .nil pass0 (pa_cons (pv 2) pa_nil)))
      (pss_one (ps_ret (pe_call Gs hr1 rfl ms ks bs .nil pass0 (pa_cons (pv 2) pa_nil)))) pss_nil)
    (pss_one (ps_ret (pe_call GN hr1 rfl mN kN bN .nil pass0 (pa_cons (pe_call (E := E) Gu hr1 rfl mu ku bu .nil (passes_call (W := fun cls d _ H => E cls d H) (takes_of rfl rfl rfl rfl) (fun _ _ _ _ h => h)) (pa_cons (pv 2) (pa_cons pe_int pa_nil))) pa_nil)))))))), ?_⟩
  have an : ∀ i, (rflds l i).lookup ("taken" : Str) = none := fun i => rflds_no _ _ (by decide +kernel) (by decide +kernel)
  have ax : ∀ i, (rflds l i).lookup ("expect" : Str) = none := fun i => rflds_no _ _ (by decide +kernel) (by decide +kernel)
  obtain ⟨dx, hp⟩ := R.ob
  refine ⟨_, rfl, _, _, rfl, rfl, _, rfl, ?_⟩
  rw [show decide ((2 : Int) < dp) = false from decide_eq_false (by omega)]
  refine iteF ⟨_, rfl, p, dx, _, rfl, hp, an _, p, l, ws, i, rfl, R, fun H1 b1 R1 => ?_⟩
  refine ⟨_, rfl, rfl, _, rfl, ?_⟩
  rw [str_dec]
  have q : RdOut C N p l ws H Q E (pieceM ws (d + 1) i) := q
  unfold pieceM at q
  by_cases c1 : wd ws i = "("
  · rw [decide_eq_true c1]
    rw [if_pos c1] at q
    refine iteT ⟨_, rfl, _, rfl, _, _, rfl, rfl, p, l, ws, i + 1, rfl, R1, W, ?_⟩
    cases e : levelM ws (pieceM ws d) kinds (i + 1) with
    | none =>
      rw [e] at q
      exact fun H2 b2 => q H2 (b1.trans b2)
    | some r =>
      obtain ⟨t, j⟩ := r
      rw [e] at q
      dsimp only at q
      intro v H2 b2 R2 tv
      obtain ⟨dx2, hp2⟩ := R2.ob
      refine ⟨_, rfl, p, dx2, _, rfl, hp2, ax _, p, l, ws, j, ")", rfl, R2, (by decide +kernel), W.ws, fun e2 H3 b3 R3 => ?_, fun e2 H3 b3 => ?_⟩
      · rw [if_pos e2] at q
        exact ⟨_, rfl, q v H3 ((b1.trans b2).trans b3) R3 (tv.mono (R2.tups b3))⟩
      · rw [if_neg e2] at q
        exact q H3 ((b1.trans b2).trans b3)
  · rw [decide_eq_false c1]
    rw [if_neg c1] at q
    refine iteF ⟨_, rfl, rfl, _, rfl, ?_⟩
    rw [str_dec]
    by_cases c2 : wd ws i = "["
    · rw [decide_eq_true c2]
      rw [if_pos c2] at q
      exact iteT ⟨_, rfl, _, rfl, p, l, ws, i + 1, rfl, R1, W, q.mono b1⟩
    · rw [decide_eq_false c2]
      rw [if_neg c2] at q
      refine iteF ⟨_, rfl, wd ws i, rfl, W.wd i, fun H2 s2 => ?_⟩
      have R2 := R1.mono s2
      have b2 : But p H H2 := b1.trans (.of_same s2)
      refine ⟨_, rfl, ?_⟩
      cases e : nameM (wd ws i) with
      | true =>
        rw [e, if_pos rfl] at q
        exact iteT ⟨_, rfl, wd ws i, rfl, fun v H3 s3 tv => q v H3 (b2.trans (.of_same s3)) (R2.mono s3) tv⟩
      | false =>
        rw [e, if_neg Bool.false_ne_true] at q
        refine iteF ⟨_, rfl, wd ws i, 0, rfl, by decide, by decide, fun n hn => ?_, fun hn => ?_⟩
        · rw [hn] at q
          exact ⟨n, rfl, fun v H3 s3 tv => q v H3 (b2.trans (.of_same s3)) (R2.mono s3) tv⟩
        · rw [hn] at q
          exact q H2 b2
theorem ok_level_end {fs : List Str → Nat → Option (Aw.T × Nat)} {dp : Int} {g : Addr} {gd : FuncData} {k : Nat} (F : Fun K "read_level" "read_level" s_read_level f fd) (T : Txt K mg C N) (TC : TxtC K mg w)
    (GP : FnOk P w K mg base (L2.CX P w) k g gd ["reader", "deep"] (spPiece C N fs dp)) (bP : Binds K gd ["reader", "deep"] []) (kP : PySem.W.keepIn K (.ref g) = true) (mP : mg "read_piece" = some (.ref g)) :
    FnOk P w K mg base (L2.CX P w) (k + 1) f fd ["reader", "level", "deep"] (spLevel C N [] fs 3 dp) := by
  obtain ⟨aL, gL, tL⟩ := TC.gLv
  refine F.okX sc_read_level (fun vs H Q E h => ?_) (fun cdv A outer s H vs Q E hr h => ?_)
  · obtain ⟨p, l, ws, i, rfl, _⟩ := h
    rfl
  obtain ⟨p, l, ws, i, rfl, R, W, q⟩ := h
  refine ⟨_, pss_cons (ps_if (pt_cmpR op_eq (pv 1) (pe_callB call_len_seq (by rfl) T.len PySem.boot_len (pa_cons (pe_glob (v := .ref aL) rfl gL rfl) pa_nil)) (nomark _))
      (pss_one (ps_ret (pe_call (E := E) GP hr rfl mP kP bP .nil (passes_call (W := fun cls d _ H => E cls d H) (takes_of rfl rfl rfl rfl) (fun _ _ _ _ h => h)) (pa_cons (pv 0) (pa_cons (pv 2) pa_nil))))) pss_nil)
    (pss_cons ps_never (pss_cons ps_never (pss_cons ps_never (pss_cons ps_never (pss_cons ps_never (pss_one ps_never)))))), ?_⟩
  refine ⟨_, rfl, aL, _, rfl, .inr (tL H), rfl, _, rfl, iteT ?_⟩
  exact ⟨_, rfl, _, rfl, p, l, ws, i, rfl, R, W, q⟩
def lvOf : Kd → Int
  | .most => 0
  | .least => 1
  | .sum => 2
theorem ok_level_step {fs : List Str → Nat → Option (Aw.T × Nat)} (ha : Adv fs) {kd : Kd} {ks : List Kd} {dp : Int} {k : Nat} (hk : 3 ≤ k) (F : Fun K "read_level" "read_level" s_read_level f fd) (T : Txt K mg C N) (TC : TxtC K mg w) (L : Low P w K mg base C N)
    (GL : FnOk P w K mg base (L2.CX P w) k f fd ["reader", "level", "deep"] (spLevel C N ks fs (lvOf kd + 1) dp)) (bL : Binds K fd ["reader", "level", "deep"] []) (kL : PySem.W.keepIn K (.ref f) = true) (mL : mg "read_level" = some (.ref f)) :
    FnOk P w K mg base (L2.CX P w) (k + 1) f fd ["reader", "level", "deep"] (spLevel C N (kd :: ks) fs (lvOf kd) dp) := by
  obtain ⟨aL, gL, tL⟩ := TC.gLv
  obtain ⟨aS, gS, tS⟩ := TC.gSg
  obtain ⟨fA, dA, GA, bA, mA⟩ := L.A
  obtain ⟨fT, dT, GT, bT, mT⟩ := L.T
  obtain ⟨fJ, dJ, GJ, bJ, kJ, mJ⟩ := L.pJ
  refine F.okX sc_read_level (fun vs H Q E h => ?_) (fun cdv A outer s H vs Q E hr h => ?_)
  · obtain ⟨p, l, ws, i, rfl, _⟩ := h
    rfl
  obtain ⟨p, l, ws, i, rfl, R, W, q⟩ := h
  have nd := sc_read_level.nd
  have hr1 : Room 1 _ := hr.mono (by omega)
  have hr2 : Room 2 _ := hr.mono (by omega)
  refine ⟨_, pss_cons (ps_if (pt_cmpR op_eq (pv 1) (pe_callB call_len_seq (by rfl) T.len PySem.boot_len (pa_cons (pe_glob (v := .ref aL) rfl gL rfl) pa_nil)) (nomark _)) (pss_one ps_never) pss_nil)
    (pss_cons (ps_set (i := 3) nd rfl (.inl rfl) (pe_ix ix_tup (pe_glob (v := .ref aL) rfl gL rfl) (pv 1) (fun _ _ => rfl)))
    (pss_cons (ps_set (i := 4) nd rfl (.inl rfl) (pe_lst (pa_cons (pe_call (E := E) GL hr rfl mL kL bL .nil (passes_call (W := fun cls d _ H => E cls d H) (takes_of rfl rfl rfl rfl) (fun _ _ _ _ h => h)) (pa_cons (pv 0) (pa_cons (pe_op op_add (pv 1) pe_int) (pa_cons (pv 2) pa_nil)))) pa_nil)))
    (pss_cons (ps_while (passes_of rfl) (pt_cmpR op_eq (pe_meth0 (pv 0) T.cl mA GA hr1 bA .nil pass0) (pe_ix ix_kdict (pe_glob (v := .ref aS) rfl gS rfl) (pv 3) (fun _ _ => rfl)) (nomark _))
      (pss_cons (ps_expr (pe_meth0 (pv 0) T.cl mT GT hr2 bT .nil pass0))
      (pss_one (ps_expr (pe_bm PySem.F.plainAttrs_list PySem.F.slot_list_append PySem.F.type_list_append mt_append (pv 4) (pa_cons (pe_call (E := E) GL hr rfl mL kL bL .nil (passes_call (W := fun cls d _ H => E cls d H) (takes_of rfl rfl rfl rfl) (fun _ _ _ _ h => h)) (pa_cons (pv 0) (pa_cons (pe_op op_add (pv 1) pe_int) (pa_cons (pv 2) pa_nil)))) pa_nil))))))
    (pss_cons (ps_if (pt_cmpR op_gt (pe_callB call_len_seq (by rfl) T.len PySem.boot_len (pa_cons (pv 4) pa_nil)) (pe_gI T.gMP) (nomark _))
      (pss_one (ps_raise (W := fun cls d _ H => E cls d H) rfl (takes_of rfl rfl rfl rfl) (pmk_own PySem.F.excBase_ValueError T.xN T.gN T.kN (raises_own T.bN T.tN) rfl))) pss_nil)
    (pss_cons (ps_if (pt_cmpR op_eq (pe_callB call_len_seq (by rfl) T.len PySem.boot_len (pa_cons (pv 4) pa_nil)) pe_int (nomark _)) (pss_one (ps_ret (pe_ix ix_list (pv 4) pe_int (fun _ _ => rfl)))) pss_nil)
    (pss_one (ps_ret (pe_call GJ hr1 rfl mJ kJ bJ .nil pass0 (pa_cons (pv 3) (pa_cons (pv 4) pa_nil)))))))))), ?_⟩
  have al : ∀ i, (rflds l i).lookup ("ahead" : Str) = none := fun i => rflds_no _ _ (by decide +kernel) (by decide +kernel)
  have an : ∀ i, (rflds l i).lookup ("taken" : Str) = none := fun i => rflds_no _ _ (by decide +kernel) (by decide +kernel)
  have adv := level_adv ha ks ws
  refine ⟨_, rfl, aL, _, rfl, .inr (tL H), rfl, _, rfl, ?_⟩
  rw [show decide (V.int (lvOf kd) = V.int ((([.str "most", .str "least", .str "sum"] : List V).length : Nat) : Int)) = false from by cases kd <;> decide]
  refine iteF ⟨_, rfl, aL, _, _, .str kd.nm, rfl, rfl, tL H, (by cases kd <;> rfl), ?_⟩
  refine ⟨_, rfl, _, rfl, _, _, rfl, rfl, _, rfl, p, l, ws, i, rfl, R, W, ?_⟩
  unfold levelM at q
  cases e : levelM ws (fs ws) ks i with
  | none =>
    rw [e] at q
    exact q
  | some r =>
    obtain ⟨t, j⟩ := r
    rw [e] at q
    dsimp only at q
    intro v H1 b1 R1 tv
    refine ⟨(by show 1 ≤ sizeLine; decide), fun a hna => ?_⟩
    have hpa : p ≠ a := R1.ne_new hna
    have hna0 : H a = none := by
      cases e0 : H a with
      | none => rfl
      | some o =>
        have := b1 a o e0 hpa.symm
        rw [hna] at this
        cases this
    have bu : ∀ {H2 : Hp} (o : HO), But p H H2 → But p H (upd H2 a o) := fun o b c u hc hcp => by
      rw [upd_ne (ne_of_none hc hna0)]
      exact b c u hc hcp
    have hlen : ws.length ≤ 1000 := R.ln
    generalize eR : chainM ws (levelM ws (fs ws) ks) kd.sg (ws.length + 1) [t] j = RES at q
    refine ⟨fun n σ H' => ∃ ts vs j', σ = [some (.ref p), some (.int (lvOf kd)), some (.int dp), some (.str kd.nm), some (.ref a)] ∧ But p H H' ∧ RdAt C p l ws j' H' ∧ H' a = some (.lst vs) ∧ TAs H' vs ts ∧ 0 < ts.length ∧ ts.length ≤ j' ∧
      (ts.length ≤ ws.length + 1) ∧ chainM ws (levelM ws (fs ws) ks) kd.sg n ts j' = RES ∧ 0 < n ∧ ws.length < n + j', ⟨ws.length + 1, [t], [v], j, rfl, bu _ b1, R1.mono (same_new hna _), upd_same, .cons (tv.mono (.of_same (same_new hna _))) .nil, Nat.zero_lt_one, ?_, ?_, eR, by omega, by omega⟩, ?_⟩
    · have := adv _ _ _ e
      show 1 ≤ j
      omega
    · show 1 ≤ _
      omega
    rintro n σ H2 ⟨ts, vs, j', rfl, b2, R2, e2, tvs, h0, hj, hw, ec, hn0, hf⟩
    obtain ⟨dx2, hp2⟩ := R2.ob
    refine ⟨_, rfl, p, dx2, _, rfl, hp2, al _, p, l, ws, j', rfl, R2, ?_⟩
    refine ⟨_, rfl, aS, kd.nm, _, rfl, rfl, tS kd, rfl, _, rfl, ?_⟩
    rw [str_dec]
    cases n with
    | zero => exact absurd hn0 (Nat.lt_irrefl 0)
    | succ n =>
      unfold chainM at ec
      by_cases c : wd ws j' = kd.sg
      · rw [if_pos c] at ec
        rw [decide_eq_true c]
        have hjl : j' < ws.length := wd_lt c (by cases kd <;> decide +kernel)
        refine iteT ⟨_, fun σ' H' h => ⟨n, Nat.lt_succ_self n, h⟩, ?_⟩
        refine ⟨_, rfl, p, dx2, _, rfl, hp2, an _, p, l, ws, j', rfl, R2, fun H3 b3 R3 => ?_⟩
        have e3 : H3 a = some (.lst vs) := b3 _ _ e2 hpa.symm
        refine ⟨_, rfl, .inl ⟨rfl, _, SqL.of e3⟩, _, rfl, _, rfl, _, _, rfl, rfl, _, rfl, p, l, ws, j' + 1, rfl, R3, W, ?_⟩
        have tvs3 := tvs.mono (R2.tups b3)
        cases e5 : levelM ws (fs ws) ks (j' + 1) with
        | none =>
          rw [e5] at ec
          subst ec
          exact fun H4 b4 => q H4 ((b2.trans b3).trans b4)
        | some r5 =>
          obtain ⟨t5, j5⟩ := r5
          rw [e5] at ec
          dsimp only at ec
          have h5 := adv _ _ _ e5
          intro v5 H4 b4 R4 tv5
          have e4 : H4 a = some (.lst vs) := b4 _ _ e3 hpa.symm
          have hvl := tvs.length
          have tvs4 := tvs3.mono (R3.tups b4)
          have tu : Tups H4 (upd H4 a (.lst (vs ++ [v5]))) := fun b xs hb => by
            rw [upd_ne (ne_of hb e4 (by intro z; cases z))]
            exact hb
          have hla : l ≠ a := by
            intro z
            subst z
            have z1 := R1.ls
            rw [hna] at z1
            cases z1
          refine ⟨a, _, _, rfl, rfl, e4, small1000 (by omega), ts ++ [t5], vs ++ [v5], j5, rfl, bu _ ((b2.trans b3).trans b4), ?_, upd_same, ((TAs.snoc tv5 tvs4).mono tu), ?_, ?_, ?_, ec, ?_, ?_⟩
          · obtain ⟨dx4, hp4⟩ := R4.ob
            exact ⟨⟨dx4, by rw [upd_ne hpa]; exact hp4⟩, by rw [upd_ne hla]; exact R4.ls, R4.ln⟩
          all_goals (try rw [List.length_append, List.length_singleton])
          all_goals omega
      · rw [if_neg c] at ec
        rw [decide_eq_false c]
        subst ec
        dsimp only at q
        refine iteF ⟨_, rfl, a, _, rfl, .inl (SqL.of e2), _, _, rfl, rfl, _, rfl, ?_⟩
        rw [tvs.length]
        unfold joinM at q
        by_cases c8 : 8 < ts.length
        · rw [if_pos c8] at q
          rw [show decide ((8 : Int) < ((ts.length : Nat) : Int)) = true from decide_eq_true (by omega)]
          exact iteT (q H2 b2)
        · rw [if_neg c8] at q
          rw [show decide ((8 : Int) < ((ts.length : Nat) : Int)) = false from decide_eq_false (by omega)]
          refine iteF ⟨_, rfl, a, _, rfl, .inl (SqL.of e2), rfl, _, rfl, ?_⟩
          rw [tvs.length]
          match ts, vs, tvs, h0, q with
          | [], _, _, h0, _ => exact absurd h0 (Nat.lt_irrefl 0)
          | [t1], [v1], .cons ta _, _, q =>
            refine iteT ⟨_, rfl, a, _, _, v1, rfl, rfl, SqL.of e2, rfl, ?_⟩
            exact q v1 H2 b2 R2 ta
          | t1 :: t2 :: r, _, tvs, _, q =>
            rw [show decide (V.int (((t1 :: t2 :: r).length : Nat) : Int) = V.int 1) = false from decide_eq_false (by intro z; have := V.int.inj z; simp only [List.length_cons] at this; omega)]
            refine iteF ⟨_, rfl, _, rfl, kd, a, _, _, rfl, e2, tvs, fun v' H3 s3 tv' => ?_⟩
            exact q v' H3 (b2.trans (.of_same s3)) (R2.mono s3) tv'
end
end Aw

namespace Aw
open PySem L2
theorem lexStep_wl {ws : List Str} {b k : Kn} {c i : Nat} (h : ∀ w ∈ ws, w.length ≤ i) : ∀ w ∈ lexStep (ws, b) c k, w.length ≤ i + 1 := by
  intro w hw
  unfold lexStep at hw
  dsimp only at hw
  split at hw
  · exact mem_addLast h hw
  · split at hw
    · rcases List.mem_append.mp hw with q | q
      · exact Nat.le_succ_of_le (h _ q)
      · rw [List.mem_singleton.mp q, len_sg1]; omega
    · exact Nat.le_succ_of_le (h _ hw)
theorem lexStep_len {ws : List Str} {b k : Kn} {c i : Nat} (h : ws.length ≤ i) : (lexStep (ws, b) c k).length ≤ i + 1 := by
  unfold lexStep
  dsimp only
  split
  · unfold addLast
    rw [List.length_set]; omega
  · split
    · rw [List.length_append, List.length_singleton]; omega
    · omega
theorem lexGo_bound : ∀ (cs : List Nat) (ws : List Str) (b : Kn) (i : Nat) {ws' : List Str}, (∀ w ∈ ws, w.length ≤ i) → ws.length ≤ i → lexGo cs ws b = some ws' → (∀ w ∈ ws', w.length ≤ i + cs.length) ∧ ws'.length ≤ i + cs.length
  | [], ws, b, i, ws', h1, h2, h => by
    unfold lexGo at h
    cases h
    exact ⟨h1, h2⟩
  | c :: r, ws, b, i, ws', h1, h2, h => by
    unfold lexGo at h
    cases e : kindM c with
    | none => rw [e] at h; cases h
    | some k =>
      rw [e] at h
      have q := lexGo_bound r _ _ (i + 1) (lexStep_wl h1) (lexStep_len h2) h
      have e1 : i + 1 + r.length = i + (c :: r).length := by rw [List.length_cons]; omega
      rw [e1] at q
      exact q
theorem lexM_ok {z : Str} {ws : List Str} (h : lexM z = some ws) : (∀ w ∈ ws, w.length ≤ z.length) ∧ ws.length ≤ z.length := by
  have q := lexGo_bound z.cps.toList [] .blank 0 (fun _ h => by cases h) (Nat.le_refl 0) h
  rw [Nat.zero_add, Array.length_toList] at q
  exact q
/-- the three of the reading that call one another, as they stand -/
structure Rec (K : PySem.W.Frag) (mg : Str → Option Value) (fl fp fg : Addr) (dl dp dg : FuncData) : Prop where
  FL : Fun K "read_level" "read_level" s_read_level fl dl
  FP : Fun K "read_piece" "read_piece" s_read_piece fp dp
  FG : Fun K "read_gate" "read_gate" s_read_gate fg dg
  bL : Binds K dl ["reader", "level", "deep"] []
  bP : Binds K dp ["reader", "deep"] []
  bG : Binds K dg ["reader", "deep"] []
  mL : mg "read_level" = some (.ref fl)
  mP : mg "read_piece" = some (.ref fp)
  mG : mg "read_gate" = some (.ref fg)
section
variable {P : Program} {w : World} {K : PySem.W.Frag} {mg : Str → Option Value} {base : Heap} {C N : Addr} {f : Addr} {fd : FuncData} {fl fp fg : Addr} {dl dp dg : FuncData}
theorem level_all {fs : List Str → Nat → Option (Aw.T × Nat)} (ha : Adv fs) {dq : Int} {k : Nat} (hk : 3 ≤ k) (T : Txt K mg C N) (TC : TxtC K mg w) (L : Low P w K mg base C N) (R : Rec K mg fl fp fg dl dp dg)
    (GP : FnOk P w K mg base (L2.CX P w) k fp dp ["reader", "deep"] (spPiece C N fs dq)) : FnOk P w K mg base (L2.CX P w) (k + 4) fl dl ["reader", "level", "deep"] (spLevel C N kinds fs 0 dq) := by
  have g3 := ok_level_end R.FL T TC GP R.bP R.FP.kp R.mP
  have g2 : FnOk P w K mg base (L2.CX P w) (k + 2) fl dl ["reader", "level", "deep"] (spLevel C N [.sum] fs (lvOf .sum) dq) := ok_level_step ha (by omega) R.FL T TC L g3 R.bL R.FL.kp R.mL
  have g1 : FnOk P w K mg base (L2.CX P w) (k + 3) fl dl ["reader", "level", "deep"] (spLevel C N [.least, .sum] fs (lvOf .least) dq) := ok_level_step ha (by omega) R.FL T TC L g2 R.bL R.FL.kp R.mL
  exact ok_level_step (kd := .most) ha (by omega) R.FL T TC L g1 R.bL R.FL.kp R.mL
theorem piece_all (T : Txt K mg C N) (TC : TxtC K mg w) (L : Low P w K mg base C N) (R : Rec K mg fl fp fg dl dp dg) : ∀ d : Nat, ∀ dq : Int, dq = 3 - (d : Nat) → FnOk P w K mg base (L2.CX P w) (4 + 6 * d) fp dp ["reader", "deep"] (spPiece C N (fun ws => pieceM ws d) dq)
  | 0, dq, h => by
    have e : dq = 3 := by omega
    subst e
    exact ok_piece0 (k := 3) R.FP T
  | d + 1, dq, h => by
    have G := piece_all T TC L R d (dq + 1) (by omega)
    have GL := level_all (piece_adv d) (by omega) T TC L R G
    have GG := ok_gate (dp := dq) (by omega) R.FG T L G R.bP R.FP.kp R.mP
    exact (ok_pieceS (k := 4 + 6 * d + 4) (by omega) (by omega) R.FP T L GL R.bL R.FL.kp R.mL (GG.mono (by omega)) R.bG R.FG.kp R.mG).mono (by omega)
theorem ok_read {fw fi : Addr} {dw di : FuncData} (F : Fun K "read" "read" s_read f fd) (T : Txt K mg C N) (TC : TxtC K mg w) (L : Low P w K mg base C N) (R : Rec K mg fl fp fg dl dp dg) (M : Mk K C fi) (GI : FnOk P w K mg base CX0 1 fi di ["self", "words"] (spInit C)) (bI : Binds K di ["self", "words"] [])
    (GW : FnOk P w K mg base (L2.CX P w) 2 fw dw ["text"] (spWords N)) (bW : Binds K dw ["text"] []) (kW : PySem.W.keepIn K (.ref fw) = true) (mW : mg "words_of" = some (.ref fw)) : FnOk P w K mg base (L2.CX P w) 27 f fd ["text"] (spRead N) := by
  obtain ⟨fA, dA, GA, bA, mA⟩ := L.A
  have GL : FnOk P w K mg base (L2.CX P w) 26 fl dl ["reader", "level", "deep"] (spLevel C N kinds (fun ws => pieceM ws 3) 0 0) := level_all (piece_adv 3) (by omega) T TC L R (piece_all T TC L R 3 0 (by decide))
  refine F.okX sc_read (fun vs H Q E h => ?_) (fun cdv A outer s H vs Q E hr h => ?_)
  · obtain ⟨z, rfl, _⟩ := h
    rfl
  obtain ⟨z, rfl, hz, k1, k2⟩ := h
  have nd := sc_read.nd
  have hr1 : Room 1 _ := hr.mono (by omega)
  have hr2 : Room 2 _ := hr.mono (by omega)
  refine ⟨_, pss_cons (ps_if (pt_cmpR op_gt (pe_callB call_len_str (by rfl) T.len PySem.boot_len (pa_cons (pv 0) pa_nil)) (pe_gI T.gMS) (nomark _))
      (pss_one (ps_raise (W := fun cls d _ H => E cls d H) rfl (takes_of rfl rfl rfl rfl) (pmk_own PySem.F.excBase_ValueError T.xN T.gN T.kN (raises_own T.bN T.tN) rfl))) pss_nil)
    (pss_cons (ps_set (i := 1) nd rfl (.inl rfl) (pe_call (E := E) GW hr2 rfl mW kW bW .nil (passes_call (W := fun cls d _ H => E cls d H) (takes_of rfl rfl rfl rfl) (fun _ _ _ _ h => h)) (pa_cons (pv 0) pa_nil)))
    (pss_cons (ps_if (pt_cmpR op_gt (pe_callB call_len_seq (by rfl) T.len PySem.boot_len (pa_cons (pv 1) pa_nil)) (pe_gI T.gMW) (nomark _))
      (pss_one (ps_raise (W := fun cls d _ H => E cls d H) rfl (takes_of rfl rfl rfl rfl) (pmk_own PySem.F.excBase_ValueError T.xN T.gN T.kN (raises_own T.bN T.tN) rfl))) pss_nil)
    (pss_cons (ps_set (i := 2) nd rfl (.inl rfl) (pe_make M GI hr2 rfl T.mgC bI .nil pass0 (pa_cons (pv 1) pa_nil)))
    (pss_cons (ps_set (i := 3) nd rfl (.inl rfl) (pe_call (E := E) GL hr rfl R.mL R.FL.kp R.bL .nil (passes_call (W := fun cls d _ H => E cls d H) (takes_of rfl rfl rfl rfl) (fun _ _ _ _ h => h)) (pa_cons (pv 2) (pa_cons pe_int (pa_cons pe_int pa_nil)))))
    (pss_cons (ps_if (pt_cmpR op_ne (pe_meth0 (pv 2) T.cl mA GA hr1 bA .nil pass0) pe_str (nomark _))
      (pss_one (ps_raise (W := fun cls d _ H => E cls d H) rfl (takes_of rfl rfl rfl rfl) (pmk_own PySem.F.excBase_ValueError T.xN T.gN T.kN (raises_own T.bN T.tN) rfl))) pss_nil)
    (pss_one (ps_ret (pv 3)))))))), ?_⟩
  refine ⟨_, rfl, z, rfl, hz, _, _, rfl, rfl, _, rfl, ?_⟩
  unfold readM at k1 k2
  by_cases c1 : 400 < z.length
  · rw [if_pos c1] at k2
    rw [show decide ((400 : Int) < ((z.length : Nat) : Int)) = true from decide_eq_true (by omega)]
    exact iteT (k2 rfl H (Same.refl H))
  rw [if_neg c1] at k1 k2
  rw [show decide ((400 : Int) < ((z.length : Nat) : Int)) = false from decide_eq_false (by omega)]
  refine iteF ⟨_, rfl, z, rfl, by omega, fun ws ew l H1 s1 hl e1 => ?_, fun ew H1 s1 => ?_⟩
  · rw [ew] at k1 k2
    dsimp only at k1 k2
    have B := lexM_ok ew
    refine ⟨_, rfl, l, _, rfl, .inl (SqL.of e1), _, _, rfl, rfl, _, rfl, ?_⟩
    rw [List.length_map]
    by_cases c2 : 40 < ws.length
    · rw [if_pos c2] at k2
      rw [show decide ((40 : Int) < ((ws.length : Nat) : Int)) = true from decide_eq_true (by omega)]
      exact iteT (k2 rfl H1 s1)
    rw [if_neg c2] at k1 k2
    rw [show decide ((40 : Int) < ((ws.length : Nat) : Int)) = false from decide_eq_false (by omega)]
    refine iteF ⟨_, rfl, fun p dx np ndx nex => ?_⟩
    refine ⟨p, dx, l, rfl, upd_same, fun H2 hp2 b2 => ⟨rfl, ?_⟩⟩
    have s2 : Same H1 H2 := fun b o e => b2 b o (by rw [upd_ne (ne_of_none e np), upd_ne (ne_of_none e ndx)]; exact e) (ne_of_none e np)
    have R2 : RdAt C p l ws 0 H2 := ⟨⟨dx, hp2⟩, s2 _ _ e1, by omega⟩
    have W : WsOk ws := ⟨fun w hw => by have := B.1 w hw; omega⟩
    have bs : ∀ {H3 : Hp}, But p H2 H3 → Same H H3 := fun b3 b o e => b3 b o (s2 b o (s1 b o e)) (ne_of_none (s1 b o e) np)
    refine ⟨_, rfl, p, l, ws, 0, rfl, R2, W, ?_⟩
    cases e3 : levelM ws (pieceM ws 3) kinds 0 with
    | none =>
      rw [e3] at k2
      exact fun H3 b3 => k2 rfl H3 (bs b3)
    | some r =>
      obtain ⟨t, j⟩ := r
      rw [e3] at k1 k2
      dsimp only at k1 k2
      intro v H3 b3 R3 tv
      obtain ⟨dx3, hp3⟩ := R3.ob
      refine ⟨_, rfl, p, dx3, _, rfl, hp3, rflds_no _ _ (by decide +kernel) (by decide +kernel), p, l, ws, j, rfl, R3, ?_⟩
      refine ⟨rfl, _, rfl, ?_⟩
      rw [str_dec]
      by_cases c3 : wd ws j = Str.empty
      · rw [if_pos c3] at k1
        rw [show decide (wd ws j = ("" : Str)) = true from decide_eq_true c3]
        exact iteF ⟨_, rfl, k1 t rfl v H3 (bs b3) tv⟩
      · rw [if_neg c3] at k2
        rw [show decide (wd ws j = ("" : Str)) = false from decide_eq_false c3]
        exact iteT (k2 rfl H3 (bs b3))
  · rw [ew] at k2
    exact k2 rfl H1 s1
end
end Aw

namespace Aw
open PySem L2
/-! ### the law's own helpers -/
def spCell (K : PySem.W.Frag) : Sp := fun vs H Q _ => ∃ (a : Addr) (ns : List Int) (k : Nat), vs = [.ref a, .int k] ∧ SqL K H a (ns.map V.int) ∧ ns.length ≤ 63 ∧ ∀ i : Int, Q (.int i) H
def spNames : Sp := fun vs H Q _ => ∃ (c m : Int), vs = [.int c, .int m] ∧ 0 ≤ m ∧ m ≤ 100 ∧ ∀ (l : Addr) (H' : Hp) (nms : List Str), Same H H' → H l = none → H' l = some (.lst (nms.map V.str)) → (nms.length : Int) = m → (∀ s ∈ nms, NameOk s) → Q (.ref l) H'
structure TxtL (K : PySem.W.Frag) (mg : Str → Option Value) : Prop where
  len : mg "len" = none
  int : mg "int" = none
  range : mg "range" = none
  str : mg "str" = none
section
variable {P : Program} {w : World} {K : PySem.W.Frag} {mg : Str → Option Value} {base : Heap} {f : Addr} {fd : FuncData}
theorem ok_cell (F : Fun K "_law_cell_at" "_law_cell_at" s_law_cell_at f fd) (T : TxtL K mg) : FnOk P w K mg base CX0 1 f fd ["_law_script", "_law_k"] (spCell K) := by
  refine F.ok sc_law_cell_at (fun vs H Q E h => ?_) (fun cdv A outer s H vs Q E hr h => ?_)
  · obtain ⟨a, ns, k, rfl, _⟩ := h
    rfl
  obtain ⟨a, ns, k, rfl, hS, h63, q⟩ := h
  refine ⟨_, pss_cons (ps_if (pt_cmpR op_lt (pv 1) (pe_callB call_len_seq (by rfl) T.len PySem.boot_len (pa_cons (pv 0) pa_nil)) (nomark _)) (pss_one (ps_ret (pe_ix ix_list (pv 0) (pv 1) (fun _ _ => rfl)))) pss_nil)
    (pss_one (ps_ret pe_int)), ?_⟩
  refine ⟨_, rfl, _, rfl, a, _, rfl, .inl hS, _, _, rfl, rfl, _, rfl, ?_⟩
  refine ite2 (fun c => ?_) (fun c => ?_)
  · have c' : (k : Int) < (((ns.map V.int).length : Nat) : Int) := of_decide_eq_true c
    rw [List.length_map] at c'
    have hk : k < ns.length := by omega
    refine ⟨_, rfl, _, rfl, a, _, _, _, rfl, rfl, hS, atI_nat (v := .int ns[k]) ?_, q _⟩
    rw [List.getElem?_map, List.getElem?_eq_getElem hk]
    rfl
  · exact q 0
end
end Aw

namespace Aw
open PySem L2
section
variable {P : Program} {w : World} {K : PySem.W.Frag} {mg : Str → Option Value} {base : Heap} {f : Addr} {fd : FuncData}
theorem let_at {n : Int} (h0 : 0 ≤ n) (h1 : n < 26) : ∃ c, c ∈ LET ∧ atI (("abcdefghijklmnopqrstuvwxyz" : Str)).cps.toList n = some c := by
  have hk : n.toNat < LET.length := by
    have e : LET.length = 26 := by decide +kernel
    omega
  refine ⟨LET[n.toNat], List.getElem_mem hk, ?_⟩
  have q : atI LET ((n.toNat : Nat) : Int) = some LET[n.toNat] := atI_nat (List.getElem?_eq_getElem hk)
  rwa [show ((n.toNat : Nat) : Int) = n by omega] at q
theorem nameOk_of {z : Str} (h1 : 1 ≤ z.length) (h6 : z.length ≤ 6) (h : ∀ c ∈ z.cps.toList, c ∈ LET) : NameOk z := by
  unfold NameOk nameM
  rw [decide_eq_true (show 1 ≤ z.length ∧ z.length ≤ 6 from ⟨h1, h6⟩), Bool.true_and, List.all_eq_true]
  exact fun c hc => decide_eq_true (h c hc)
theorem mem_app1 {z : Str} {c : Nat} (h : ∀ x ∈ z.cps.toList, x ∈ LET) (hc : c ∈ LET) : ∀ x ∈ (z ++ sg1 c).cps.toList, x ∈ LET := by
  intro x hx
  have e : (z ++ sg1 c).cps.toList = z.cps.toList ++ [c] := by
    show (z.cps ++ #[c]).toList = _
    rw [Array.toList_append]
  rw [e] at hx
  rcases List.mem_append.mp hx with q | q
  · exact h x q
  · rw [List.mem_singleton.mp q]; exact hc
theorem ok_names (F : Fun K "_law_names" "_law_names" s_law_names f fd) (T : TxtL K mg) : FnOk P w K mg base CX0 1 f fd ["_law_cell", "_law_many"] spNames := by
  refine F.ok sc_law_names (fun vs H Q E h => ?_) (fun cdv A outer s H vs Q E hr h => ?_)
  · obtain ⟨c, m, rfl, _⟩ := h
    rfl
  obtain ⟨c, m, rfl, m0, m1, q⟩ := h
  have nd := sc_law_names.nd
  refine ⟨_, pss_cons (ps_set (i := 2) nd rfl (.inl rfl) pe_str)
    (pss_cons (ps_set (i := 3) nd rfl (.inl rfl) (pe_op op_add pe_int (pe_op op_mod (pv 0) pe_int)))
    (pss_cons (ps_set (i := 4) nd rfl (.inl rfl) (pe_op op_mod (pe_op op_fdiv (pv 0) pe_int) (pv 3)))
    (pss_cons (ps_set (i := 5) nd rfl (.inl rfl) (pe_lst pa_nil))
    (pss_cons (ps_for PassesOwn.never rfl (pi_range1 rfl T.range (pa_cons (pv 1) pa_nil)) (pg_name (i := 6) nd rfl (.inl rfl))
      (pss_cons (ps_set (i := 7) nd rfl (.inl rfl) pe_str)
      (pss_cons (ps_for PassesOwn.never rfl (pi_range1 rfl T.range (pa_cons (pv 3) pa_nil)) (pg_name (i := 8) nd rfl (.inl rfl))
        (pss_cons (ps_set (i := 9) nd rfl (.inl rfl) (pe_op op_add (pe_op op_mod (pe_op op_fdiv (pv 0) pe_int) pe_int) (pe_op op_mul pe_int (pv 8))))
        (pss_cons (ps_if (pt_cmpR op_eq (pv 8) (pv 4) (nomark _)) (pss_one (ps_set (i := 9) nd rfl (.inl rfl) (pe_op op_add (pv 9) (pv 6)))) pss_nil)
        (pss_one (ps_set (i := 7) nd rfl (.inl rfl) (pe_op op_add_str (pv 7) (pe_ix ix_str (pv 2) (pe_op op_mod (pv 9) pe_int) (fun _ _ => rfl))))))))
      (pss_one (ps_expr (pe_bm PySem.F.plainAttrs_list PySem.F.slot_list_append PySem.F.type_list_append mt_append (pv 5) (pa_cons (pv 7) pa_nil)))))))
    (pss_one (ps_ret (pv 5))))))), ?_⟩
  have hs0 : 0 ≤ c % 6 := Int.emod_nonneg _ (by decide)
  have hs1 : c % 6 < 6 := Int.emod_lt_of_pos _ (by decide)
  refine ⟨_, rfl, _, _, rfl, rfl, (by show (0 : Int) < 6; decide), _, _, rfl, rfl, ?_⟩
  refine ⟨_, rfl, _, _, rfl, rfl, ⟨by decide, by decide⟩, _, rfl, _, _, rfl, rfl, (by show 0 < 1 + c % 6; omega), ?_⟩
  refine ⟨(by show 0 ≤ sizeLine; decide), fun l hl => ?_⟩
  refine ⟨_, rfl, m, rfl, by omega, by omega, ?_⟩
  refine for_range (lo := 0) (n := m.toNat) (fun i σ H' => ∃ (nms : List Str) (v6 v7 v8 v9 : Option V), σ = [some (.int c), some (.int m), some (.str "abcdefghijklmnopqrstuvwxyz"), some (.int (1 + c % 6)), some (.int (c / 6 % (1 + c % 6))), some (.ref l), v6, v7, v8, v9] ∧
    Same H H' ∧ H' l = some (.lst (nms.map V.str)) ∧ nms.length = i ∧ ∀ s ∈ nms, NameOk s) ⟨[], none, none, none, none, rfl, same_new hl _, upd_same, rfl, fun s hs => by cases hs⟩ ?_ ?_
  · rintro i σ H1 hi ⟨nms, v6, v7, v8, v9, rfl, s1, e1, hlen, hok⟩
    refine ⟨_, rfl, 1 + c % 6, rfl, by omega, by omega, ?_⟩
    refine for_range (lo := 0) (n := (1 + c % 6).toNat) (fun j σ H' => ∃ (z : Str) (v8 v9 : Option V), σ = [some (.int c), some (.int m), some (.str "abcdefghijklmnopqrstuvwxyz"), some (.int (1 + c % 6)), some (.int (c / 6 % (1 + c % 6))), some (.ref l), some (.int (0 + (i : Int))), some (.str z), v8, v9] ∧
      H' = H1 ∧ z.length = j ∧ ∀ x ∈ z.cps.toList, x ∈ LET) ⟨Str.empty, _, _, rfl, rfl, rfl, fun x hx => by cases hx⟩ ?_ ?_
    · rintro j σ H2 hj ⟨z, v8, v9, rfl, rfl, hz, hl'⟩
      refine ⟨_, rfl, _, _, rfl, rfl, ⟨by decide, by decide⟩, _, _, rfl, rfl, (by show (0 : Int) < 26; decide), _, rfl, _, _, rfl, rfl, .inl ⟨by decide, by decide⟩, _, _, rfl, rfl, ?_⟩
      refine ⟨_, rfl, _, rfl, rfl, _, rfl, ?_⟩
      have hz6 : (j : Int) < 6 := by omega
      refine ite2 (fun _ => ?_) (fun _ => ?_)
      · refine ⟨_, rfl, _, rfl, _, _, rfl, rfl, ?_⟩
        obtain ⟨ch, hc, ec⟩ := let_at (n := (c / 36 % 26 + 5 * (0 + (j : Int)) + (0 + (i : Int))) % 26) (Int.emod_nonneg _ (by decide)) (Int.emod_lt_of_pos _ (by decide))
        refine ⟨_, rfl, _, rfl, _, rfl, _, _, rfl, rfl, (by show (0 : Int) < 26; decide), _, _, ch, rfl, rfl, (by decide +kernel), ec, z, sg1 ch, rfl, rfl, big (by rw [len_sg1]; omega), ?_⟩
        exact ⟨z ++ sg1 ch, _, _, rfl, rfl, by rw [len_app, len_sg1, hz], mem_app1 hl' hc⟩
      · obtain ⟨ch, hc, ec⟩ := let_at (n := (c / 36 % 26 + 5 * (0 + (j : Int))) % 26) (Int.emod_nonneg _ (by decide)) (Int.emod_lt_of_pos _ (by decide))
        refine ⟨_, rfl, _, rfl, _, rfl, _, _, rfl, rfl, (by show (0 : Int) < 26; decide), _, _, ch, rfl, rfl, (by decide +kernel), ec, z, sg1 ch, rfl, rfl, big (by rw [len_sg1]; omega), ?_⟩
        exact ⟨z ++ sg1 ch, _, _, rfl, rfl, by rw [len_app, len_sg1, hz], mem_app1 hl' hc⟩
    · rintro σ H2 ⟨z, v8, v9, rfl, rfl, hz, hl'⟩
      refine ⟨_, rfl, .inl ⟨rfl, _, SqL.of e1⟩, _, rfl, l, _, _, rfl, rfl, e1, small1000 (by rw [List.length_map]; omega), ?_⟩
      refine ⟨nms ++ [z], _, _, _, _, rfl, same_upd s1 hl _, (by rw [upd_same, List.map_append]; rfl), by rw [List.length_append, List.length_singleton, hlen], fun s hs => ?_⟩
      rcases List.mem_append.mp hs with q | q
      · exact hok s q
      · rw [List.mem_singleton.mp q]
        exact nameOk_of (by omega) (by omega) hl'
  · rintro σ H1 ⟨nms, v6, v7, v8, v9, rfl, s1, e1, hlen, hok⟩
    exact ⟨_, rfl, q l H1 nms s1 hl e1 (by omega) hok⟩
end
end Aw

namespace Aw
open PySem L2
/-! ### is_name, by what it takes of the top -/
structure TxtI (mg : Str → Option Value) : Prop where
  len : mg "len" = none
  all : mg "all" = none
  gLet : ∃ t, mg "LETTERS" = some (.str "abcdefghijklmnopqrstuvwxyz" t)
  gLN : ∃ t, mg "LONGEST_NAME" = some (.int 6 t)
section
variable {P : Program} {w : World} {K : PySem.W.Frag} {mg : Str → Option Value} {base : Heap} {f : Addr} {fd : FuncData}
theorem ok_isname (F : Fun K "is_name" "is_name" s_is_name f fd) (T : TxtI mg) : FnOk P w K mg base CX0 1 f fd ["text"] spName := by
  refine F.ok sc_is_name (fun vs H Q E h => ?_) (fun cdv A outer s H vs Q E hr h => ?_)
  · obtain ⟨z, rfl, _⟩ := h
    rfl
  obtain ⟨z, rfl, hz, k⟩ := h
  refine ⟨_, pss_cons (ps_if (pt_not (pt_chain op_le op_le pe_int (pe_callB call_len_str (by rfl) T.len PySem.boot_len (pa_cons (pv 0) pa_nil)) (pe_gI T.gLN))) (pss_one (ps_ret pe_bl)) pss_nil)
    (pss_one (ps_ret (pe_callB (cr_all rfl) (by rfl) T.all (by decide +kernel) (pa_cons
      (pe_lc (own := [("sign", 1)]) (g := gName 1) rfl sc_is_name.nd (pi_str (pv 0)) (blkOk_by (N := ["text", "sign"]) (sc := defScope s_is_name) (by decide +kernel)) (fun _ _ _ _ _ => pg_name (i := 1) sc_is_name.nd rfl (Or.inl rfl)) (fun _ _ _ _ _ => pts_nil)
        (fun _ _ _ _ _ => pe_cmpR op_in_sign (pv 1) (pe_gS T.gLet) rfl)) pa_nil)))), ?_⟩
  refine ⟨_, rfl, _, rfl, big (by omega), _, _, rfl, rfl, _, rfl, ?_⟩
  by_cases c1 : (1 : Int) ≤ (z.length : Int)
  · rw [show decide ((1 : Int) ≤ (z.length : Int)) = true from decide_eq_true c1]
    refine iteT ⟨_, _, rfl, rfl, _, rfl, ?_⟩
    by_cases c2 : (z.length : Int) ≤ 6
    · rw [show decide ((z.length : Int) ≤ 6) = true from decide_eq_true c2]
      refine iteF ?_
      refine ⟨_, rfl, _, rfl, fun D hD => ?_⟩
      refine lc_it (walk_str (z := z)) (fun i H' => Same H H' ∧ H' D = some (.lst (((z.cps.toList.take i).map fun c => V.bl (decide (c ∈ LET)))))) ?_ (fun _ _ _ _ => trivial) ?_ ?_
      · exact ⟨same_new hD _, upd_same⟩
      · rintro i x H1 H2 hi ⟨s1, e1⟩ ⟨rfl, c, hc, rfl⟩
        have hc' : z.cps.toList[i]? = some c := by rw [Array.getElem?_toList]; exact hc
        have hi' : i < z.length := hi
        refine ⟨rfl, ?_⟩
        refine ⟨_, rfl, c, _, rfl, rfl, _, e1, ?_, ?_⟩
        · rw [List.length_map, List.length_take]
          exact small1000 (by omega)
        · refine ⟨same_upd s1 hD _, ?_⟩
          rw [upd_same, take_more hc', List.map_append]
          rfl
      · rintro H1 ⟨s1, e1⟩
        rw [List.take_of_length_le (by rw [Array.length_toList] <;> exact Nat.le_refl _)] at e1
        refine ⟨D, z.cps.toList.map fun c => decide (c ∈ LET), rfl, SqL.of (by rw [e1, List.map_map] <;> rfl), ?_⟩
        have e : nameM z = ((z.cps.toList.map fun c => decide (c ∈ LET)).all id) := by
          unfold nameM
          rw [decide_eq_true (show 1 ≤ z.length ∧ z.length ≤ 6 by omega), Bool.true_and, List.all_map]
          rfl
        rw [← e]
        exact k H1 s1
    · rw [show decide ((z.length : Int) ≤ 6) = false from decide_eq_false c2]
      refine iteT ?_
      have e : nameM z = false := by
        unfold nameM
        rw [decide_eq_false (show ¬ (1 ≤ z.length ∧ z.length ≤ 6) by omega), Bool.false_and]
      have q := k H (Same.refl H)
      rw [e] at q
      exact q
  · rw [show decide ((1 : Int) ≤ (z.length : Int)) = false from decide_eq_false c1]
    refine iteF ⟨_, rfl, ?_⟩
    refine iteT ?_
    have e : nameM z = false := by
      unfold nameM
      rw [decide_eq_false (show ¬ (1 ≤ z.length ∧ z.length ≤ 6) by omega), Bool.false_and]
    have q := k H (Same.refl H)
    rw [e] at q
    exact q
end
end Aw

namespace Aw
open PySem L2
/-! ### the hall: made, names put -/
structure TxtH (K : PySem.W.Frag) (mg : Str → Option Value) (C : HC) : Prop where
  cl : Cls K C.h
  nN : NoAttr K C.h "numbers"
  nR : NoAttr K C.h "recipes"
  nK : NoAttr K C.h "kept"
  nU : NoAttr K C.h "untaken"
  nP : NoAttr K C.h "points"
  len : mg "len" = none
  gGr : ∃ t, mg "GREATEST" = some (.int 30 t)
  gMN : ∃ t, mg "MOST_NAMES" = some (.int 10 t)
structure Exc1 (K : PySem.W.Frag) (mg : Str → Option Value) (nm : Str) (N : Addr) : Prop where
  x : PySem.W.excIn K N [.type "ValueError", .type "Exception", .type "BaseException", .type "object"] "ValueError.__new__" = true
  g : mg nm = some (.ref N)
  k : PySem.W.keepIn K (.ref N) = true
  b : PySem.W.subIn K (.ref N) (.type "BaseException") = some true
  t : PySem.W.typeIn K (.ref N) = some (.type "type")
def hl0 : Hl := ⟨[], [], [], [], []⟩
def roomy (h : Hl) (s : Str) : Prop := s ∈ akeys h.nums ∨ s ∈ akeys h.recs ∨ h.nums.length + h.recs.length < 10
def putH (h : Hl) (s : Str) (i : Int) : Hl := { h with nums := aput h.nums s i, recs := adel h.recs s }
def makeH (h : Hl) (s : Str) (t : T) : Hl := { h with recs := aput h.recs s t, nums := adel h.nums s }
def spHInit (C : HC) : Sp := fun vs H Q _ => ∃ (p dx : Addr), vs = [.ref p] ∧ H p = some (.ins C.h dx []) ∧ ∀ (A : HA) (H' : Hp), A.p = p → A.dx = dx → (∀ b, A.own b → b = p ∨ H b = none) → But p H H' → (∀ W : Addr → Prop, (∀ b, A.own b → W b) → HallAt C W H' A hl0) → Q .non H'
def spCheck (NN : Addr) : Sp := fun vs H Q E => ∃ z, vs = [.str z] ∧ z.length ≤ 1000 ∧ (nameM z = true → ∀ H', Same H H' → Q .non H') ∧ (nameM z = false → ∀ H', Same H H' → E (.ref NN) none H')
def spRoom (C : HC) (NF : Addr) : Sp := fun vs H Q E => ∃ (A : HA) (W : Addr → Prop) (h : Hl) (z : Str), vs = [.ref A.p, .str z] ∧ HallAt C W H A h ∧ (roomy h z → Q .non H) ∧ (¬ roomy h z → E (.ref NF) none H)
/-- what stays where a hall's wells and works are changed -/
def Stay2 (A : HA) (H H' : Hp) : Prop := ∀ b o, H b = some o → b ≠ A.n → b ≠ A.r → H' b = some o
def spPut (C : HC) (NN NB NF : Addr) : Sp := fun vs H Q E => ∃ (A : HA) (W : Addr → Prop) (h : Hl) (z : Str) (i : Int), vs = [.ref A.p, .str z, .int i] ∧ HallAt C W H A h ∧ z.length ≤ 1000 ∧ h.nums.length ≤ 1000 ∧
  (nameM z = false → ∀ H', Same H H' → E (.ref NN) none H') ∧ (nameM z = true → ¬ (0 ≤ i ∧ i ≤ 30) → ∀ H', Same H H' → E (.ref NB) none H') ∧ (nameM z = true → 0 ≤ i ∧ i ≤ 30 → ¬ roomy h z → ∀ H', Same H H' → E (.ref NF) none H') ∧
  (nameM z = true → 0 ≤ i ∧ i ≤ 30 → roomy h z → ∀ H', Stay2 A H H' → HallAt C W H' A (putH h z i) → Q .non H')
theorem adel_id {α : Type} {m : AL α} {s : Str} (h : s ∉ akeys m) : adel m s = m := by
  unfold adel
  exact List.filter_eq_self.mpr fun p hp => decide_eq_true fun e => h (by rw [← e]; exact List.mem_map_of_mem hp)
section
variable {P : Program} {w : World} {K : PySem.W.Frag} {mg : Str → Option Value} {base : Heap} {f : Addr} {fd : FuncData} {C : HC}
theorem ok_Hinit (F : Fun K "__init__" "Hall.__init__" s_Hall_init f fd) (T : TxtH K mg C) : FnOk P w K mg base CX0 1 f fd ["self"] (spHInit C) := by
  refine F.ok sc_Hall_init (fun vs H Q E h => ?_) (fun cdv A outer s H vs Q E hr h => ?_)
  · obtain ⟨p, dx, rfl, _⟩ := h
    rfl
  obtain ⟨p, dx, rfl, hp, q⟩ := h
  refine ⟨_, pss_cons (ps_fld (pv 0) pe_dnewK rfl) (pss_cons (ps_fld (pv 0) pe_dnewK rfl) (pss_cons (ps_fld (pv 0) pe_dnewK rfl) (pss_cons (ps_fld (pv 0) (pe_lst pa_nil) rfl) (pss_one (ps_fld (pv 0) (pe_lst pa_nil) rfl))))), ?_⟩
  refine fun n hn => ⟨_, rfl, p, C.h, dx, [], rfl, ?_, T.cl, T.nN, (by show 0 < 1000; decide), ?_⟩
  · rw [upd_ne (ne_of_none hp hn)]; exact hp
  have np : p ≠ n := ne_of_none hp hn
  obtain ⟨H1, h1⟩ : ∃ H1, H1 = upd (upd H n (.dK [])) p (.ins C.h dx (putF "numbers" (.ref n) [])) := ⟨_, rfl⟩
  rw [← h1]
  have p1 : H1 p = some (.ins C.h dx (putF "numbers" (.ref n) [])) := by rw [h1]; exact upd_same
  have n1 : H1 n = some (.dK []) := by rw [h1, upd_ne np.symm]; exact upd_same
  have b1 : But p H H1 := fun b o e hb => by rw [h1, upd_ne hb, upd_ne (ne_of_none e hn)]; exact e
  refine fun r hr' => ⟨_, rfl, p, C.h, dx, _, rfl, by rw [upd_ne (ne_of_none p1 hr')]; exact p1, T.cl, T.nR, (by show 1 < 1000; decide), ?_⟩
  have pr : p ≠ r := ne_of_none p1 hr'
  obtain ⟨H2, h2⟩ : ∃ H2, H2 = upd (upd H1 r (.dK [])) p (.ins C.h dx (putF "recipes" (.ref r) (putF "numbers" (.ref n) []))) := ⟨_, rfl⟩
  rw [← h2]
  have p2 : H2 p = some (.ins C.h dx (putF "recipes" (.ref r) (putF "numbers" (.ref n) []))) := by rw [h2]; exact upd_same
  have r2 : H2 r = some (.dK []) := by rw [h2, upd_ne pr.symm]; exact upd_same
  have b2 : But p H1 H2 := fun b o e hb => by rw [h2, upd_ne hb, upd_ne (ne_of_none e hr')]; exact e
  have n2 : H2 n = some (.dK []) := b2 _ _ n1 np.symm
  refine fun k hk => ⟨_, rfl, p, C.h, dx, _, rfl, by rw [upd_ne (ne_of_none p2 hk)]; exact p2, T.cl, T.nK, ?_, ?_⟩
  · have e0 : ∀ (k : Str) (v : V), putF k v [] = [(k, v)] := fun _ _ => rfl
    rw [e0, putF_neg s_nr, e0]; show 2 < 1000; decide
  have pk : p ≠ k := ne_of_none p2 hk
  obtain ⟨H3, h3⟩ : ∃ H3, H3 = upd (upd H2 k (.dK [])) p (.ins C.h dx (putF "kept" (.ref k) (putF "recipes" (.ref r) (putF "numbers" (.ref n) [])))) := ⟨_, rfl⟩
  rw [← h3]
  have p3 : H3 p = some (.ins C.h dx (putF "kept" (.ref k) (putF "recipes" (.ref r) (putF "numbers" (.ref n) [])))) := by rw [h3]; exact upd_same
  have k3 : H3 k = some (.dK []) := by rw [h3, upd_ne pk.symm]; exact upd_same
  have b3 : But p H2 H3 := fun b o e hb => by rw [h3, upd_ne hb, upd_ne (ne_of_none e hk)]; exact e
  have n3 := b3 _ _ n2 np.symm
  have r3 := b3 _ _ r2 pr.symm
  refine ⟨(by show 0 ≤ sizeLine; decide), fun u hu => ⟨_, rfl, p, C.h, dx, _, rfl, by rw [upd_ne (ne_of_none p3 hu)]; exact p3, T.cl, T.nU, ?_, ?_⟩⟩
  · have e0 : ∀ (k : Str) (v : V), putF k v [] = [(k, v)] := fun _ _ => rfl
    rw [e0, putF_neg s_nr, e0, putF_neg s_nk, putF_neg s_rk, e0]; show 3 < 1000; decide
  have pu : p ≠ u := ne_of_none p3 hu
  obtain ⟨H4, h4⟩ : ∃ H4, H4 = upd (upd H3 u (.lst [])) p (.ins C.h dx (putF "untaken" (.ref u) (putF "kept" (.ref k) (putF "recipes" (.ref r) (putF "numbers" (.ref n) []))))) := ⟨_, rfl⟩
  rw [← h4]
  have p4 : H4 p = some (.ins C.h dx (putF "untaken" (.ref u) (putF "kept" (.ref k) (putF "recipes" (.ref r) (putF "numbers" (.ref n) []))))) := by rw [h4]; exact upd_same
  have u4 : H4 u = some (.lst []) := by rw [h4, upd_ne pu.symm]; exact upd_same
  have b4 : But p H3 H4 := fun b o e hb => by rw [h4, upd_ne hb, upd_ne (ne_of_none e hu)]; exact e
  refine ⟨(by show 0 ≤ sizeLine; decide), fun t ht => ⟨_, rfl, p, C.h, dx, _, rfl, by rw [upd_ne (ne_of_none p4 ht)]; exact p4, T.cl, T.nP, ?_, ?_⟩⟩
  · have e0 : ∀ (k : Str) (v : V), putF k v [] = [(k, v)] := fun _ _ => rfl
    rw [e0, putF_neg s_nr, e0, putF_neg s_nk, putF_neg s_rk, e0, putF_neg s_nu, putF_neg s_ru, putF_neg s_ku, e0]; show 4 < 1000; decide
  have pt : p ≠ t := ne_of_none p4 ht
  obtain ⟨H5, h5⟩ : ∃ H5, H5 = upd (upd H4 t (.lst [])) p (.ins C.h dx (putF "points" (.ref t) (putF "untaken" (.ref u) (putF "kept" (.ref k) (putF "recipes" (.ref r) (putF "numbers" (.ref n) [])))))) := ⟨_, rfl⟩
  rw [← h5]
  have p5 : H5 p = some (.ins C.h dx (hallF ⟨p, dx, n, r, k, u, t⟩)) := by rw [h5, upd_same, hallF_new]; rfl
  have t5 : H5 t = some (.lst []) := by rw [h5, upd_ne pt.symm]; exact upd_same
  have b5 : But p H4 H5 := fun b o e hb => by rw [h5, upd_ne hb, upd_ne (ne_of_none e ht)]; exact e
  have hrH : H r = none := by
    cases e : H r with
    | none => rfl
    | some o => rw [b1 _ _ e pr.symm] at hr'; cases hr'
  have b12 := b1.trans b2
  have hkH : H k = none := by
    cases e : H k with
    | none => rfl
    | some o => rw [b12 _ _ e pk.symm] at hk; cases hk
  have b13 := b12.trans b3
  have huH : H u = none := by
    cases e : H u with
    | none => rfl
    | some o => rw [b13 _ _ e pu.symm] at hu; cases hu
  have b14 := b13.trans b4
  have htH : H t = none := by
    cases e : H t with
    | none => rfl
    | some o => rw [b14 _ _ e pt.symm] at ht; cases ht
  refine q ⟨p, dx, n, r, k, u, t⟩ H5 rfl rfl (fun b o => ?_) (b14.trans b5) fun W own => ⟨p5, ⟨[], b5 _ _ (b4 _ _ n3 np.symm) np.symm, .nil⟩, ⟨[], b5 _ _ (b4 _ _ r3 pr.symm) pr.symm, .nil⟩, ⟨[], b5 _ _ (b4 _ _ k3 pk.symm) pk.symm, .nil⟩, ⟨[], b5 _ _ u4 pu.symm, .nil⟩, ⟨[], t5, .nil⟩,
    ne_of_none n1 hr', ne_of_none n2 hk, ne_of_none r2 hk, ne_of_none u4 ht, own⟩
  rcases o with z | z | z | z | z | z
  · exact .inl z
  · rw [z]; exact .inr hn
  · rw [z]; exact .inr hrH
  · rw [z]; exact .inr hkH
  · rw [z]; exact .inr huH
  · rw [z]; exact .inr htH
theorem ok_check {NN g : Addr} {gd : FuncData} (F : Fun K "check_name" "check_name" s_check_name f fd) (X : Exc1 K mg "NoName" NN) (G : FnOk P w K mg base CX0 1 g gd ["text"] spName) (b : Binds K gd ["text"] []) (k : PySem.W.keepIn K (.ref g) = true) (m : mg "is_name" = some (.ref g)) :
    FnOk P w K mg base (L2.CX P w) 2 f fd ["text"] (spCheck NN) := by
  refine F.okX sc_check_name (fun vs H Q E h => ?_) (fun cdv A outer s H vs Q E hr h => ?_)
  · obtain ⟨z, rfl, _⟩ := h
    rfl
  obtain ⟨z, rfl, hz, q1, q2⟩ := h
  refine ⟨_, pss_one (ps_if (pt_not (pt_val (pe_call G hr rfl m k b .nil pass0 (pa_cons (pv 0) pa_nil)))) (pss_one (ps_raise (W := fun cls d _ H => E cls d H) rfl (takes_of rfl rfl rfl rfl) (pmk_own PySem.F.excBase_ValueError X.x X.g X.k (raises_own X.b X.t) rfl))) pss_nil), ?_⟩
  refine ⟨_, rfl, z, rfl, hz, fun H1 s1 => ⟨_, rfl, ?_⟩⟩
  cases e : nameM z with
  | true => exact iteF (q1 e H1 s1)
  | false => exact iteT (q2 e H1 s1)
theorem ok_room {NF : Addr} (F : Fun K "check_room" "Hall.check_room" s_Hall_check_room f fd) (T : TxtH K mg C) (X : Exc1 K mg "Full" NF) : FnOk P w K mg base (L2.CX P w) 1 f fd ["self", "name"] (spRoom C NF) := by
  refine F.okX sc_Hall_check_room (fun vs H Q E h => ?_) (fun cdv A outer s H vs Q E hr h => ?_)
  · obtain ⟨A, W, h, z, rfl, _⟩ := h
    rfl
  obtain ⟨A, W, h, z, rfl, a, q1, q2⟩ := h
  refine ⟨_, pss_cons (ps_if (PW.pt (pw_or (pt_cmp (pc_din (hu_of hr) (pv 1) (pe_fld (pv 0) rfl))) (pw_or1 (pt_cmp (pc_din (hu_of hr) (pv 1) (pe_fld (pv 0) rfl)))))) (pss_one ps_retN) pss_nil)
    (pss_one (ps_if (pt_cmpR op_ge (pe_op op_add (pe_callB call_lenD (by rfl) T.len PySem.boot_len (pa_cons (pe_fld (pv 0) rfl) pa_nil)) (pe_callB call_lenD (by rfl) T.len PySem.boot_len (pa_cons (pe_fld (pv 0) rfl) pa_nil))) (pe_gI T.gMN) (nomark _))
      (pss_one (ps_raise (W := fun cls d _ H => E cls d H) rfl (takes_of rfl rfl rfl rfl) (pmk_own PySem.F.excBase_ValueError X.x X.g X.k (raises_own X.b X.t) rfl))) pss_nil)), ?_⟩
  obtain ⟨kn, en, dn⟩ := a.n
  obtain ⟨kr, er, dr⟩ := a.r
  refine ⟨_, rfl, _, rfl, A.p, C.h, A.dx, _, _, rfl, a.ob, T.cl, T.nN, hallF_n A, A.n, _, rfl, DGet.k (k := Sum.inr z) en, _, rfl, ?_⟩
  rw [dn.isS]
  by_cases c1 : z ∈ akeys h.nums
  · rw [decide_eq_true c1]
    refine iteT ?_
    exact iteT (q1 (.inl c1))
  · rw [decide_eq_false c1]
    refine iteF ⟨_, rfl, _, rfl, A.p, C.h, A.dx, _, _, rfl, a.ob, T.cl, T.nR, hallF_r A, A.r, _, rfl, DGet.k (k := Sum.inr z) er, _, rfl, ?_⟩
    rw [dr.isS]
    by_cases c2 : z ∈ akeys h.recs
    · rw [decide_eq_true c2]
      exact iteT (q1 (.inr (.inl c2)))
    · rw [decide_eq_false c2]
      refine iteF ⟨_, rfl, A.p, C.h, A.dx, _, _, rfl, a.ob, T.cl, T.nN, hallF_n A, A.n, kn, rfl, en, _, rfl, A.p, C.h, A.dx, _, _, rfl, a.ob, T.cl, T.nR, hallF_r A, A.r, kr, rfl, er, _, _, rfl, rfl, _, _, rfl, rfl, _, rfl, ?_⟩
      rw [dn.len, dr.len]
      by_cases c3 : h.nums.length + h.recs.length < 10
      · rw [decide_eq_false (by omega)]
        exact iteF (q1 (.inr (.inr c3)))
      · rw [decide_eq_true (by omega)]
        exact iteT (q2 fun z => z.elim c1 fun z => z.elim c2 c3)
theorem ok_put {NN NB NF g1 g2 : Addr} {e1 e2 : FuncData} (F : Fun K "put" "Hall.put" s_Hall_put f fd) (T : TxtH K mg C) (X : Exc1 K mg "NoNumber" NB) (G1 : FnOk P w K mg base (L2.CX P w) 2 g1 e1 ["text"] (spCheck NN)) (b1 : Binds K e1 ["text"] []) (k1 : PySem.W.keepIn K (.ref g1) = true) (m1 : mg "check_name" = some (.ref g1))
    (G2 : FnOk P w K mg base (L2.CX P w) 1 g2 e2 ["self", "name"] (spRoom C NF)) (b2 : Binds K e2 ["self", "name"] []) (m2 : Meth K C.h "check_room" g2) : FnOk P w K mg base (L2.CX P w) 3 f fd ["self", "name", "number"] (spPut C NN NB NF) := by
  refine F.okX sc_Hall_put (fun vs H Q E h => ?_) (fun cdv A outer s H vs Q E hr h => ?_)
  · obtain ⟨A, W, h, z, i, rfl, _⟩ := h
    rfl
  obtain ⟨A, W, h, z, i, rfl, a, hz, hl, q1, q2, q3, q4⟩ := h
  have hr1 : Room 1 _ := hr.mono (by decide)
  refine ⟨_, pss_cons (ps_expr (pe_call (E := E) G1 hr rfl m1 k1 b1 .nil (passes_call (W := fun cls d _ H => E cls d H) (takes_of rfl rfl rfl rfl) (fun _ _ _ _ h => h)) (pa_cons (pv 1) pa_nil)))
    (pss_cons (ps_if (pt_not (pt_chain op_le op_le pe_int (pv 2) (pe_gI T.gGr))) (pss_one (ps_raise (W := fun cls d _ H => E cls d H) rfl (takes_of rfl rfl rfl rfl) (pmk_own PySem.F.excBase_ValueError X.x X.g X.k (raises_own X.b X.t) rfl))) pss_nil)
    (pss_cons (ps_expr (pe_meth (E := E) (pv 0) T.cl m2 G2 hr1 b2 .nil (passes_call (W := fun cls d _ H => E cls d H) (takes_of rfl rfl rfl rfl) (fun _ _ _ _ h => h)) (pa_cons (pv 1) pa_nil)))
    (pss_cons (ps_dput (hu_of hr) (pe_fld (pv 0) rfl) (pv 1) (pv 2) rfl)
    (pss_one (ps_if (pt_cmp (pc_din (hu_of hr) (pv 1) (pe_fld (pv 0) rfl))) (pss_one (ps_ddel (pe_fld (pv 0) rfl) (pv 1))) pss_nil))))), ?_⟩
  refine ⟨_, rfl, z, rfl, hz, fun e H1 s1 => ?_, q1⟩
  have a1 := a.same s1
  have done : 0 ≤ i ∧ i ≤ 30 → roomy h z → ∀ kn kr, H1 A.n = some (.dK kn) → DR IntV kn h.nums → H1 A.r = some (.dK kr) → DR (TA H1) kr h.recs → ∀ kr' H2, kr' = (if z ∈ akeys h.recs then dropK kr (Sum.inr z) else kr) → H2 A.n = some (.dK (putK kn (Sum.inr z) (.int i))) → H2 A.r = some (.dK kr') → Stay2 A H1 H2 → Q .non H2 := by
    intro hi hro kn kr en dn er dr kr' H2 ekr e2n e2r st
    have tup : Tups H1 H2 := fun b xs q => st b _ q (fun w => by rw [w, en] at q; cases q) (fun w => by rw [w, er] at q; cases q)
    have f2 : Fr W H1 H2 := fun b o q _ k => by
      by_cases c1 : b = A.n
      · obtain ⟨xs, z⟩ := k (a.own b (.inr (.inl c1)))
        rw [c1, en] at q; subst z; cases q
      · by_cases c2 : b = A.r
        · obtain ⟨xs, z⟩ := k (a.own b (.inr (.inr (.inl c2))))
          rw [c2, er] at q; subst z; cases q
        · exact st b o q c1 c2
    obtain ⟨kk, ek, dk⟩ := a1.k
    obtain ⟨vu, eu, lu⟩ := a1.u
    obtain ⟨vt, et, lt⟩ := a1.t
    refine q4 e hi hro H2 (fun b o q c1 c2 => st b o (s1 _ _ q) c1 c2) ⟨st _ _ a1.ob (ne_of a1.ob en (by intro w; cases w)) (ne_of a1.ob er (by intro w; cases w)), ⟨_, e2n, dn.put rfl⟩, ⟨kr', e2r, ?_⟩, ⟨kk, st _ _ ek a.nk.symm a.rk.symm, dk.imp fun _ _ _ z => z.fr f2⟩,
      ⟨vu, st _ _ eu (ne_of eu en (by intro w; cases w)) (ne_of eu er (by intro w; cases w)), lu.imp fun _ _ _ z => z.fr f2⟩, ⟨vt, st _ _ et (ne_of et en (by intro w; cases w)) (ne_of et er (by intro w; cases w)), lt.imp fun _ _ _ z => z.fr f2⟩, a.nr, a.nk, a.rk, a.ut, a.own⟩
    rw [ekr]
    show DR (TA H2) _ (adel h.recs z)
    split
    · exact dr.del.imp fun _ _ _ z => z.mono tup
    · next c => rw [adel_id c]; exact dr.imp fun _ _ _ z => z.mono tup
  refine ⟨_, rfl, _, _, rfl, rfl, _, rfl, ?_⟩
  have bad : ¬ (0 ≤ i ∧ i ≤ 30) → E (.ref NB) none H1 := fun c => q2 e c H1 s1
  by_cases c1 : (0 : Int) ≤ i
  · rw [show decide ((0 : Int) ≤ i) = true from decide_eq_true c1]
    refine iteT ⟨_, _, rfl, rfl, _, rfl, ?_⟩
    by_cases c2 : i ≤ 30
    · rw [show decide (i ≤ 30) = true from decide_eq_true c2]
      refine iteF ?_
      refine ⟨_, rfl, A.p, A.dx, _, rfl, a1.ob, hallF_no A (by decide +kernel) (by decide +kernel) (by decide +kernel) (by decide +kernel) (by decide +kernel), _, rfl, A, W, h, z, rfl, a1, fun ro => ?_, fun nr => q3 e ⟨c1, c2⟩ nr H1 s1⟩
      obtain ⟨kn, en, dn⟩ := a1.n
      obtain ⟨kr, er, dr⟩ := a1.r
      refine ⟨_, rfl, _, rfl, A.p, C.h, A.dx, _, _, rfl, a1.ob, T.cl, T.nN, hallF_n A, _, rfl, A.n, _, rfl, DPut.k (k := Sum.inr z) en (by rw [dn.len]; exact small1000 hl), ?_⟩
      have ob2 : (upd H1 A.n (.dK (putK kn (Sum.inr z) (.int i)))) A.p = some (.ins C.h A.dx (hallF A)) := by rw [upd_ne (ne_of a1.ob en (by intro w; cases w))]; exact a1.ob
      have er2 : (upd H1 A.n (.dK (putK kn (Sum.inr z) (.int i)))) A.r = some (.dK kr) := by rw [upd_ne a.nr.symm]; exact er
      refine ⟨_, rfl, _, rfl, A.p, C.h, A.dx, _, _, rfl, ob2, T.cl, T.nR, hallF_r A, A.r, _, rfl, DGet.k (k := Sum.inr z) er2, _, rfl, ?_⟩
      rw [dr.isS]
      by_cases c3 : z ∈ akeys h.recs
      · rw [decide_eq_true c3]
        obtain ⟨x, hx⟩ : ∃ x, alk h.recs z = some x := Option.ne_none_iff_exists'.mp fun w => alk_none.mp w c3
        obtain ⟨v, hv, _⟩ := dr.some hx
        refine iteT ⟨_, rfl, A.p, C.h, A.dx, _, _, rfl, ob2, T.cl, T.nR, hallF_r A, _, rfl, A.r, kr, Sum.inr z, rfl, er2, rfl, ?_, ?_⟩
        · rw [hv]; rfl
        · refine done ⟨c1, c2⟩ ro kn kr en dn er dr _ _ rfl ?_ ?_ ?_
          · rw [upd_ne a.nr]; exact upd_same
          · rw [if_pos c3]; exact upd_same
          · intro b o q n1 n2
            rw [upd_ne n2, upd_ne n1]
            exact q
      · rw [decide_eq_false c3]
        refine iteF ?_
        refine done ⟨c1, c2⟩ ro kn kr en dn er dr _ _ rfl upd_same ?_ ?_
        · rw [if_neg c3]; exact er2
        · intro b o q n1 n2
          rw [upd_ne n1]
          exact q
    · rw [show decide (i ≤ 30) = false from decide_eq_false c2]
      exact iteT (bad fun z => c2 z.2)
  · rw [show decide ((0 : Int) ≤ i) = false from decide_eq_false c1]
    refine iteF ⟨_, rfl, ?_⟩
    exact iteT (bad fun z => c1 z.1)
end
end Aw

namespace Aw
open PySem L2
/-! ### the hall: told, asked where nothing is run -/
def spWellsH (C : HC) : Sp := fun vs H Q _ => ∃ (A : HA) (W : Addr → Prop) (h : Hl), vs = [.ref A.p] ∧ HallAt C W H A h ∧ h.nums.length ≤ 60 ∧ (akeys h.nums).Nodup ∧
  ∀ (p : Addr) (ys : List Str) (H' : Hp), Same H H' → H p = none → ys.Perm (akeys h.nums) → ys.Pairwise sle → H' p = some (.dK (ys.map fun s => ((Sum.inr s : Key), V.int (numOf h.nums s)))) → Q (.ref p) H'
def spAskW (C : HC) (NN : Addr) : Sp := fun vs H Q E => ∃ (A : HA) (W : Addr → Prop) (h : Hl) (z : Str), vs = [.ref A.p, .str z] ∧ HallAt C W H A h ∧ z.length ≤ 1000 ∧ z ∉ akeys h.recs ∧
  (nameM z = false → ∀ H', Same H H' → E (.ref NN) none H') ∧ (nameM z = true → ∀ H', Same H H' → Q (.int (numOf h.nums z)) H')
theorem val_map {g : Str → V} {l : List Str} {s : Str} (h : s ∉ l) : valV (l.map fun z => ((Sum.inr z : Key), g z)) (Sum.inr s) = none := by
  induction l with
  | nil => rfl
  | cons a r ih =>
    rw [List.map_cons, valV_neg (fun z => h (by rw [← Sum.inr.inj z]; exact List.mem_cons_self))]
    exact ih fun z => h (List.mem_cons_of_mem _ z)
theorem not_in_take {ws : List Str} (nd : ws.Nodup) {i : Nat} {s : Str} (hi : ws[i]? = some s) : s ∉ ws.take i := fun h => by
  obtain ⟨j, hj, e⟩ := List.mem_take_iff_getElem.mp h
  have hlt := (List.getElem?_eq_some_iff.mp hi).1
  have e2 := (List.getElem?_eq_some_iff.mp hi).2
  have := (List.getElem_inj (h₀ := by omega) (h₁ := hlt) nd).mp (e.trans e2.symm)
  omega
theorem mk_str {l : List Str} {i : Nat} {x : V} (hi : (l.map V.str)[i]? = some x) : ∃ z, l[i]? = some z ∧ x = V.str z := by
  rw [List.getElem?_map] at hi
  cases ez : l[i]? with
  | none => rw [ez] at hi; cases hi
  | some z => rw [ez] at hi; exact ⟨z, rfl, (Option.some.inj hi).symm⟩
theorem num_of {kvs : List (Key × V)} {m : AL Int} (d : DR IntV kvs m) (s : Str) : (valV kvs (Sum.inr s)).getD (.int 0) = .int (numOf m s) := by
  unfold numOf
  rcases d.val s with ⟨a, b⟩ | ⟨v, x, a, b, c⟩
  · rw [a, b]; rfl
  · rw [a, b]; exact c
theorem num_in {kvs : List (Key × V)} {m : AL Int} (d : DR IntV kvs m) {s : Str} (h : s ∈ akeys m) : valV kvs (Sum.inr s) = some (.int (numOf m s)) := by
  obtain ⟨x, hx⟩ : ∃ x, alk m s = some x := Option.ne_none_iff_exists'.mp fun w => alk_none.mp w h
  obtain ⟨v, hv, c⟩ := d.some hx
  unfold numOf
  rw [hv, hx, c]
  rfl
/-- a run as it is told, all of it new -/
def RowN (H0 H : Hp) (v : V) (r : Rn) : Prop := ∃ t l ts, v = .ref t ∧ H0 t = none ∧ H0 l = none ∧ H t = some (.tup [.str r.nm, .ref l, .int r.an]) ∧ H l = some (.lst ts) ∧ LR (PairAt H) ts r.rd
theorem RowN.same {H0 H H' : Hp} {v : V} {r : Rn} (h : RowN H0 H v r) (s : Same H H') : RowN H0 H' v r := by
  obtain ⟨t, l, ts, e, n1, n2, q, q1, d⟩ := h
  exact ⟨t, l, ts, e, n1, n2, s _ _ q, s _ _ q1, d.imp fun _ _ _ z => z.fr (Fr.of_same (W := fun _ => False) s)⟩
theorem RowN.keep {H0 H H' : Hp} {v : V} {r : Rn} {p : Addr} (h : RowN H0 H v r) (s : But p H H') (np : ∃ o, H0 p = some o) (nt : ∀ xs, H p ≠ some (.tup xs)) : RowN H0 H' v r := by
  obtain ⟨t, l, ts, e, n1, n2, q, q1, d⟩ := h
  obtain ⟨o, np⟩ := np
  have tp : Tups H H' := Tups.of_but s nt
  exact ⟨t, l, ts, e, n1, n2, s _ _ q (ne_of_none np n1).symm, s _ _ q1 (ne_of_none np n2).symm, d.imp fun _ _ _ ⟨a, x, y⟩ => ⟨a, x, tp _ _ y⟩⟩
structure TxtR (K : PySem.W.Frag) (C : HC) : Prop where
  cl : Cls K C.r
  nN : NoAttr K C.r "name"
  nR : NoAttr K C.r "reads"
  nA : NoAttr K C.r "answer"
theorem s_na : ¬ (("name" : Str) = "answer") := by decide +kernel
theorem s_ra : ¬ (("reads" : Str) = "answer") := by decide +kernel
theorem s_nre : ¬ (("name" : Str) = "reads") := by decide +kernel
theorem runF_n (nm : Str) (t : Addr) (an : Int) : (runF nm t an).lookup ("name" : Str) = some (.str nm) := lku_pos
theorem runF_r (nm : Str) (t : Addr) (an : Int) : (runF nm t an).lookup ("reads" : Str) = some (.ref t) := (lku_neg (Ne.symm s_nre)).trans lku_pos
theorem runF_a (nm : Str) (t : Addr) (an : Int) : (runF nm t an).lookup ("answer" : Str) = some (.int an) := (lku_neg (Ne.symm s_na)).trans ((lku_neg (Ne.symm s_ra)).trans lku_pos)
abbrev rLo (K : PySem.W.Frag) : List V → Hp → VK → Prop := fun xs H Q => ∃ p ys, xs = [.ref p] ∧ (SqL K H p ys ∨ SqT K H p ys) ∧ ∀ l, H l = none → Q (.ref l) (upd H l (.lst ys))
def spRunsH (C : HC) : Sp := fun vs H Q _ => ∃ (A : HA) (W : Addr → Prop) (h : Hl), vs = [.ref A.p] ∧ HallAt C W H A h ∧ h.unt.length < sizeLine ∧
  ∀ (p u : Addr) (ws : List V) (H' : Hp), H p = none → H u = none → p ≠ u → But A.p H H' → H' p = some (.lst ws) → LR (RowN H H') ws h.unt → (∀ W' : Addr → Prop, Nw W W' H → (∀ b, ({ A with u := u } : HA).own b → W' b) → HallAt C W' H' { A with u := u } { h with unt := [] }) → Q (.ref p) H'
end Aw

namespace Aw
open PySem L2
/-! ### make -/
def spMake (C : HC) (NN N NF : Addr) : Sp := fun vs H Q E => ∃ (A : HA) (W : Addr → Prop) (h : Hl) (z x : Str), vs = [.ref A.p, .str z, .str x] ∧ HallAt C W H A h ∧ z.length ≤ 1000 ∧ x.length ≤ 100000 ∧ h.recs.length ≤ 1000 ∧
  (nameM z = false → ∀ H', Same H H' → E (.ref NN) none H') ∧ (nameM z = true → readM x = none → ∀ H', Same H H' → E (.ref N) none H') ∧ (nameM z = true → ∀ t, readM x = some t → ¬ roomy h z → ∀ H', Same H H' → E (.ref NF) none H') ∧
  (nameM z = true → ∀ t, readM x = some t → roomy h z → ∀ H', Stay2 A H H' → HallAt C W H' A (makeH h z t) → Q .non H')
section
variable {P : Program} {w : World} {K : PySem.W.Frag} {mg : Str → Option Value} {base : Heap} {f : Addr} {fd : FuncData} {C : HC}
theorem ok_make {NN N NF g1 g2 g3 : Addr} {e1 e2 e3 : FuncData} (F : Fun K "make" "Hall.make" s_Hall_make f fd) (T : TxtH K mg C) (G1 : FnOk P w K mg base (L2.CX P w) 2 g1 e1 ["text"] (spCheck NN)) (b1 : Binds K e1 ["text"] []) (k1 : PySem.W.keepIn K (.ref g1) = true) (m1 : mg "check_name" = some (.ref g1))
    (G2 : FnOk P w K mg base (L2.CX P w) 1 g2 e2 ["self", "name"] (spRoom C NF)) (b2 : Binds K e2 ["self", "name"] []) (m2 : Meth K C.h "check_room" g2)
    (G3 : FnOk P w K mg base (L2.CX P w) 27 g3 e3 ["text"] (spRead N)) (b3 : Binds K e3 ["text"] []) (k3 : PySem.W.keepIn K (.ref g3) = true) (m3 : mg "read" = some (.ref g3)) : FnOk P w K mg base (L2.CX P w) 28 f fd ["self", "name", "text"] (spMake C NN N NF) := by
  refine F.okX sc_Hall_make (fun vs H Q E h => ?_) (fun cdv A outer s H vs Q E hr h => ?_)
  · obtain ⟨A, W, h, z, x, rfl, _⟩ := h
    rfl
  obtain ⟨A, W, h, z, x, rfl, a, hz, hx, hl, q1, q2, q3, q4⟩ := h
  have nd := sc_Hall_make.nd
  have hr1 : Room 1 _ := hr.mono (by decide)
  have hr2 : Room 2 _ := hr.mono (by decide)
  refine ⟨_, pss_cons (ps_expr (pe_call (E := E) G1 hr2 rfl m1 k1 b1 .nil (passes_call (W := fun cls d _ H => E cls d H) (takes_of rfl rfl rfl rfl) (fun _ _ _ _ h => h)) (pa_cons (pv 1) pa_nil)))
    (pss_cons (ps_set (i := 3) nd rfl (.inl rfl) (pe_call (E := E) G3 hr rfl m3 k3 b3 .nil (passes_call (W := fun cls d _ H => E cls d H) (takes_of rfl rfl rfl rfl) (fun _ _ _ _ h => h)) (pa_cons (pv 2) pa_nil)))
    (pss_cons (ps_expr (pe_meth (E := E) (pv 0) T.cl m2 G2 hr1 b2 .nil (passes_call (W := fun cls d _ H => E cls d H) (takes_of rfl rfl rfl rfl) (fun _ _ _ _ h => h)) (pa_cons (pv 1) pa_nil)))
    (pss_cons (ps_dput (hu_of hr) (pe_fld (pv 0) rfl) (pv 1) (pv 3) rfl)
    (pss_one (ps_if (pt_cmp (pc_din (hu_of hr) (pv 1) (pe_fld (pv 0) rfl))) (pss_one (ps_ddel (pe_fld (pv 0) rfl) (pv 1))) pss_nil))))), ?_⟩
  refine ⟨_, rfl, z, rfl, hz, fun e H1 s1 => ?_, q1⟩
  have a1 := a.same s1
  refine ⟨_, rfl, x, rfl, Nat.le_trans hx (by decide), fun t et v H2 s2 tv => ?_, fun e0 H2 s2 => q2 e e0 H2 (s1.trans s2)⟩
  have s12 := s1.trans s2
  have a2 := a.same s12
  have done : roomy h z → ∀ kn kr, H2 A.n = some (.dK kn) → DR IntV kn h.nums → H2 A.r = some (.dK kr) → DR (TA H2) kr h.recs → ∀ kn' H3, kn' = (if z ∈ akeys h.nums then dropK kn (Sum.inr z) else kn) → H3 A.r = some (.dK (putK kr (Sum.inr z) v)) → H3 A.n = some (.dK kn') → Stay2 A H2 H3 → Q .non H3 := by
    intro hro kn kr en dn er dr kn' H3 ekn e3r e3n st
    have tup : Tups H2 H3 := fun b xs q => st b _ q (fun w => by rw [w, en] at q; cases q) (fun w => by rw [w, er] at q; cases q)
    have f2 : Fr W H2 H3 := fun b o q _ k => by
      by_cases c1 : b = A.n
      · obtain ⟨xs, z⟩ := k (a.own b (.inr (.inl c1)))
        rw [c1, en] at q; subst z; cases q
      · by_cases c2 : b = A.r
        · obtain ⟨xs, z⟩ := k (a.own b (.inr (.inr (.inl c2))))
          rw [c2, er] at q; subst z; cases q
        · exact st b o q c1 c2
    obtain ⟨kk, ek, dk⟩ := a2.k
    obtain ⟨vu, eu, lu⟩ := a2.u
    obtain ⟨vt, et', lt⟩ := a2.t
    refine q4 e t et hro H3 (fun b o q c1 c2 => st b o (s12 _ _ q) c1 c2) ⟨st _ _ a2.ob (ne_of a2.ob en (by intro w; cases w)) (ne_of a2.ob er (by intro w; cases w)), ⟨_, e3n, ?_⟩, ⟨_, e3r, (dr.imp fun _ _ _ z => z.mono tup).put (tv.mono tup)⟩, ⟨kk, st _ _ ek a.nk.symm a.rk.symm, dk.imp fun _ _ _ z => z.fr f2⟩,
      ⟨vu, st _ _ eu (ne_of eu en (by intro w; cases w)) (ne_of eu er (by intro w; cases w)), lu.imp fun _ _ _ z => z.fr f2⟩, ⟨vt, st _ _ et' (ne_of et' en (by intro w; cases w)) (ne_of et' er (by intro w; cases w)), lt.imp fun _ _ _ z => z.fr f2⟩, a.nr, a.nk, a.rk, a.ut, a.own⟩
    rw [ekn]
    show DR IntV _ (adel h.nums z)
    split
    · exact dn.del
    · next c => rw [adel_id c]; exact dn
  refine ⟨_, rfl, A.p, A.dx, _, rfl, a2.ob, hallF_no A (by decide +kernel) (by decide +kernel) (by decide +kernel) (by decide +kernel) (by decide +kernel), _, rfl, A, W, h, z, rfl, a2, fun ro => ?_, fun nr => q3 e t et nr H2 s12⟩
  obtain ⟨kn, en, dn⟩ := a2.n
  obtain ⟨kr, er, dr⟩ := a2.r
  refine ⟨_, rfl, _, rfl, A.p, C.h, A.dx, _, _, rfl, a2.ob, T.cl, T.nR, hallF_r A, _, rfl, A.r, _, rfl, DPut.k (k := Sum.inr z) er (by rw [dr.len]; exact Nat.lt_of_le_of_lt hl (by decide)), ?_⟩
  have ob2 : (upd H2 A.r (.dK (putK kr (Sum.inr z) v))) A.p = some (.ins C.h A.dx (hallF A)) := by rw [upd_ne (ne_of a2.ob er (by intro w; cases w))]; exact a2.ob
  have en2 : (upd H2 A.r (.dK (putK kr (Sum.inr z) v))) A.n = some (.dK kn) := by rw [upd_ne a.nr]; exact en
  refine ⟨_, rfl, _, rfl, A.p, C.h, A.dx, _, _, rfl, ob2, T.cl, T.nN, hallF_n A, A.n, _, rfl, DGet.k (k := Sum.inr z) en2, _, rfl, ?_⟩
  rw [dn.isS]
  by_cases c3 : z ∈ akeys h.nums
  · rw [decide_eq_true c3]
    obtain ⟨x, hx⟩ : ∃ x, alk h.nums z = some x := Option.ne_none_iff_exists'.mp fun w => alk_none.mp w c3
    obtain ⟨v', hv, _⟩ := dn.some hx
    refine iteT ⟨_, rfl, A.p, C.h, A.dx, _, _, rfl, ob2, T.cl, T.nN, hallF_n A, _, rfl, A.n, kn, Sum.inr z, rfl, en2, rfl, ?_, ?_⟩
    · rw [hv]; rfl
    · refine done ro kn kr en dn er dr _ _ rfl ?_ ?_ ?_
      · rw [upd_ne a.nr.symm]; exact upd_same
      · rw [if_pos c3]; exact upd_same
      · intro b o q n1 n2
        rw [upd_ne n1, upd_ne n2]
        exact q
  · rw [decide_eq_false c3]
    refine iteF ?_
    refine done ro kn kr en dn er dr _ _ rfl upd_same ?_ ?_
    · rw [if_neg c3]; exact en2
    · intro b o q n1 n2
      rw [upd_ne n2]
      exact q
end
end Aw

namespace Aw
open PySem L2
/-! ### rows: a well, a work, or none -/
def figM (s : Str) : Bool := decide (1 ≤ s.length ∧ s.length ≤ 2) && s.cps.toList.all fun c => decide (c ∈ FIG)
/-- the number of one or two figures -/
def numF : List Nat → Int
  | [c] => ((c - 48 : Nat) : Int)
  | [c, d] => (((c - 48) * 10 + (d - 48) : Nat) : Int)
  | _ => 0
theorem fig_int {s : Str} (h : figM s = true) : PySem.intText? s = some (numF s.cps.toList) ∧ 0 ≤ numF s.cps.toList ∧ numF s.cps.toList ≤ 99 := by
  obtain ⟨h1, h2⟩ := Bool.and_eq_true_iff.mp h
  have h1 := of_decide_eq_true h1
  have h2 : ∀ c ∈ s.cps.toList, c ∈ FIG := fun c hc => of_decide_eq_true (List.all_eq_true.mp h2 c hc)
  have hl : s.length = s.cps.toList.length := by unfold Str.length; rw [Array.length_toList]
  have one : ∀ c ∈ FIG, PySem.intText? ⟨#[c]⟩ = some (numF [c]) ∧ 0 ≤ numF [c] ∧ numF [c] ≤ 99 := by decide +kernel
  have two : ∀ c ∈ FIG, ∀ d ∈ FIG, PySem.intText? ⟨#[c, d]⟩ = some (numF [c, d]) ∧ 0 ≤ numF [c, d] ∧ numF [c, d] ≤ 99 := by decide +kernel
  have es : s = ⟨s.cps.toList.toArray⟩ := by cases s; rfl
  rw [hl] at h1
  rcases e : s.cps.toList with _ | ⟨c, _ | ⟨d, _ | ⟨x, r⟩⟩⟩
  · rw [e] at h1; exact absurd h1.1 (by simp)
  · rw [e] at h2 es
    rw [es]; exact one c (h2 c List.mem_cons_self)
  · rw [e] at h2 es
    rw [es]; exact two c (h2 c List.mem_cons_self) d (h2 d (List.mem_cons_of_mem _ List.mem_cons_self))
  · rw [e] at h1
    exact absurd h1.2 (by simp)
inductive RowM where
  | well (z : Str) (i : Int)
  | work (z x : Str)
  | bad
def rowM (row : Str) : RowM :=
  let p := Txt.partition row " "
  let q := Txt.partition p.2.2 " "
  if q.2.1 = Str.empty then .bad
  else if p.1 = "well" ∧ figM q.2.2 = true then .well q.1 (numF q.2.2.cps.toList)
  else if p.1 = "work" then .work q.1 q.2.2
  else .bad
def spFigs : Sp := fun vs H Q _ => ∃ z, vs = [.str z] ∧ z.length ≤ 100000 ∧ ∀ (H' : Hp), Same H H' → Q (.bl (figM z)) H'
structure TxtG (mg : Str → Option Value) : Prop where
  len : mg "len" = none
  all : mg "all" = none
  int : mg "int" = none
  gFig : ∃ t, mg "FIGURES" = some (.str "0123456789" t)
section
variable {P : Program} {w : World} {K : PySem.W.Frag} {mg : Str → Option Value} {base : Heap} {f : Addr} {fd : FuncData}
theorem ok_figs (F : Fun K "is_one_or_two_figures" "is_one_or_two_figures" s_is_one_or_two_figures f fd) (T : TxtG mg) : FnOk P w K mg base CX0 1 f fd ["text"] spFigs := by
  refine F.ok sc_is_one_or_two_figures (fun vs H Q E h => ?_) (fun cdv A outer s H vs Q E hr h => ?_)
  · obtain ⟨z, rfl, _⟩ := h
    rfl
  obtain ⟨z, rfl, hz, k⟩ := h
  refine ⟨_, pss_one (ps_ret (pe_and (pe_chain op_le op_le pe_int (pe_callB call_len_str (by rfl) T.len PySem.boot_len (pa_cons (pv 0) pa_nil)) pe_int) (pe_one (pe_callB (cr_all rfl) (by rfl) T.all (by decide +kernel) (pa_cons
      (pe_lc (own := [("sign", 1)]) (g := gName 1) rfl sc_is_one_or_two_figures.nd (pi_str (pv 0)) (blkOk_by (N := ["text", "sign"]) (sc := defScope s_is_one_or_two_figures) (by decide +kernel)) (fun _ _ _ _ _ => pg_name (i := 1) sc_is_one_or_two_figures.nd rfl (Or.inl rfl)) (fun _ _ _ _ _ => pts_nil)
        (fun _ _ _ _ _ => pe_cmpR op_in_sign (pv 1) (pe_gS T.gFig) rfl)) pa_nil))))), ?_⟩
  refine ⟨_, rfl, _, rfl, big hz, _, _, rfl, rfl, _, rfl, ?_⟩
  by_cases c1 : (1 : Int) ≤ (z.length : Int)
  · rw [show decide ((1 : Int) ≤ (z.length : Int)) = true from decide_eq_true c1]
    refine iteT ⟨_, _, rfl, rfl, _, rfl, ?_⟩
    by_cases c2 : (z.length : Int) ≤ 2
    · rw [show decide ((z.length : Int) ≤ 2) = true from decide_eq_true c2]
      refine iteT ?_
      refine ⟨_, rfl, _, rfl, fun D hD => ?_⟩
      refine lc_it (walk_str (z := z)) (fun i H' => Same H H' ∧ H' D = some (.lst (((z.cps.toList.take i).map fun c => V.bl (decide (c ∈ FIG)))))) ?_ (fun _ _ _ _ => trivial) ?_ ?_
      · exact ⟨same_new hD _, upd_same⟩
      · rintro i x H1 H2 hi ⟨s1, e1⟩ ⟨rfl, c, hc, rfl⟩
        have hc' : z.cps.toList[i]? = some c := by rw [Array.getElem?_toList]; exact hc
        have hi' : i < z.length := hi
        refine ⟨rfl, ?_⟩
        refine ⟨_, rfl, c, _, rfl, rfl, _, e1, ?_, ?_⟩
        · rw [List.length_map, List.length_take]
          exact small1000 (by omega)
        · refine ⟨same_upd s1 hD _, ?_⟩
          rw [upd_same, take_more hc', List.map_append]
          rfl
      · rintro H1 ⟨s1, e1⟩
        rw [List.take_of_length_le (by rw [Array.length_toList] <;> exact Nat.le_refl _)] at e1
        refine ⟨D, z.cps.toList.map fun c => decide (c ∈ FIG), rfl, SqL.of (by rw [e1, List.map_map] <;> rfl), ?_⟩
        have e : figM z = ((z.cps.toList.map fun c => decide (c ∈ FIG)).all id) := by
          unfold figM
          rw [decide_eq_true (show 1 ≤ z.length ∧ z.length ≤ 2 by omega), Bool.true_and, List.all_map]
          rfl
        rw [← e]
        exact k H1 s1
    · rw [show decide ((z.length : Int) ≤ 2) = false from decide_eq_false c2]
      refine iteF ?_
      have e : figM z = false := by
        unfold figM
        rw [decide_eq_false (show ¬ (1 ≤ z.length ∧ z.length ≤ 2) by omega), Bool.false_and]
      have q := k H (Same.refl H)
      rw [e] at q
      exact q
  · rw [show decide ((1 : Int) ≤ (z.length : Int)) = false from decide_eq_false c1]
    refine iteF ⟨_, rfl, ?_⟩
    refine iteF ?_
    have e : figM z = false := by
      unfold figM
      rw [decide_eq_false (show ¬ (1 ≤ z.length ∧ z.length ≤ 2) by omega), Bool.false_and]
    have q := k H (Same.refl H)
    rw [e] at q
    exact q
end
/-! ### a row done -/
theorem strSub_len (x : Str) (i j : Nat) : (Builtin.Str.strSub x i j).length ≤ x.length := by
  unfold Builtin.Str.strSub Str.length
  rw [Array.size_extract]
  omega
theorem part_len (x : Str) : (Txt.partition x " ").1.length ≤ x.length ∧ (Txt.partition x " ").2.2.length ≤ x.length := by
  unfold Txt.partition
  split
  · exact ⟨strSub_len .., strSub_len ..⟩
  · exact ⟨Nat.le_refl _, Nat.zero_le _⟩
def spDoRow (C : HC) (NN NB N NF NR : Addr) : Sp := fun vs H Q E => ∃ (A : HA) (W : Addr → Prop) (h : Hl) (row : Str), vs = [.ref A.p, .str row] ∧ HallAt C W H A h ∧ row.length ≤ 100000 ∧
  (rowM row = .bad → ∀ H', Same H H' → E (.ref NR) none H') ∧ (∀ z i, rowM row = .well z i → 0 ≤ i → i ≤ 99 → z.length ≤ row.length → ∀ H', Same H H' → spPut C NN NB NF [.ref A.p, .str z, .int i] H' Q E) ∧ (∀ z x, rowM row = .work z x → z.length ≤ row.length → x.length ≤ row.length → ∀ H', Same H H' → spMake C NN N NF [.ref A.p, .str z, .str x] H' Q E)
section
variable {P : Program} {w : World} {K : PySem.W.Frag} {mg : Str → Option Value} {base : Heap} {f : Addr} {fd : FuncData} {C : HC} {NN NB N NF NR : Addr}
set_option maxHeartbeats 0 in
theorem ok_dorow {g1 m1 m2 : Addr} {d1 e1 e2 : FuncData} (F : Fun K "do_row" "do_row" s_do_row f fd) (TH : TxtH K mg C) (T : TxtG mg) (X : Exc1 K mg "NoRow" NR) (G : FnOk P w K mg base CX0 1 g1 d1 ["text"] spFigs) (b : Binds K d1 ["text"] []) (k : PySem.W.keepIn K (.ref g1) = true) (m : mg "is_one_or_two_figures" = some (.ref g1))
    (Pu : FnOk P w K mg base (L2.CX P w) 3 m1 e1 ["self", "name", "number"] (spPut C NN NB NF)) (bP : Binds K e1 ["self", "name", "number"] []) (mP : Meth K C.h "put" m1) (Ma : FnOk P w K mg base (L2.CX P w) 28 m2 e2 ["self", "name", "text"] (spMake C NN N NF)) (bM : Binds K e2 ["self", "name", "text"] []) (mM : Meth K C.h "make" m2) :
    FnOk P w K mg base (L2.CX P w) 29 f fd ["hall", "row"] (spDoRow C NN NB N NF NR) := by
  refine F.okX sc_do_row (fun vs H Q E h => ?_) (fun cdv A0 outer s H vs Q E hr h => ?_)
  · obtain ⟨A, W, h, row, rfl, _⟩ := h
    rfl
  obtain ⟨A, W, h, row, rfl, a, hl, q1, q2, q3⟩ := h
  have nd := sc_do_row.nd
  have hr1 : Room 1 _ := hr.mono (by decide)
  have hr3 : Room 3 _ := hr.mono (by decide)
  refine ⟨_, pss_cons (ps_asg (pe_partition (pv 1) pe_str) (pg_tup (by rfl) (pgs_cons (pg_name (i := 2) nd rfl (.inl rfl)) (pgs_cons (pg_name (i := 3) nd rfl (.inl rfl)) (pgs_cons (pg_name (i := 4) nd rfl (.inl rfl)) pgs_nil)))))
    (pss_cons (ps_asg (pe_partition (pv 4) pe_str) (pg_tup (by rfl) (pgs_cons (pg_name (i := 5) nd rfl (.inl rfl)) (pgs_cons (pg_name (i := 6) nd rfl (.inl rfl)) (pgs_cons (pg_name (i := 7) nd rfl (.inl rfl)) pgs_nil)))))
    (pss_cons (ps_if (pt_cmpR op_eq (pv 6) pe_str (nomark _)) (pss_one (ps_raise (W := fun cls d _ H => E cls d H) rfl (takes_of rfl rfl rfl rfl) (pmk_own PySem.F.excBase_ValueError X.x X.g X.k (raises_own X.b X.t) rfl))) pss_nil)
    (pss_one (ps_if (PW.pt (pw_and (pt_cmpR op_eq (pv 2) pe_str (nomark _)) (pw_and1 (pt_val (pe_call G hr1 rfl m k b .nil pass0 (pa_cons (pv 7) pa_nil))))))
      (pss_one (ps_expr (pe_meth (E := E) (pv 0) TH.cl mP Pu hr3 bP .nil (passes_call (W := fun cls d _ H => E cls d H) (takes_of rfl rfl rfl rfl) (fun _ _ _ _ h => h)) (pa_cons (pv 5) (pa_cons (pe_callTy call_int_str (by rfl) T.int (by decide +kernel) (pa_cons (pv 7) pa_nil)) pa_nil)))))
      (pss_one (ps_if (pt_cmpR op_eq (pv 2) pe_str (nomark _))
        (pss_one (ps_expr (pe_meth (E := E) (pv 0) TH.cl mM Ma hr bM .nil (passes_call (W := fun cls d _ H => E cls d H) (takes_of rfl rfl rfl rfl) (fun _ _ _ _ h => h)) (pa_cons (pv 5) (pa_cons (pv 7) pa_nil)))))
        (pss_one (ps_raise (W := fun cls d _ H => E cls d H) rfl (takes_of rfl rfl rfl rfl) (pmk_own PySem.F.excBase_ValueError X.x X.g X.k (raises_own X.b X.t) rfl))))))))), ?_⟩
  obtain ⟨l1, l2⟩ := part_len row
  obtain ⟨p, hp⟩ : ∃ p, p = Txt.partition row " " := ⟨_, rfl⟩
  obtain ⟨l3, l4⟩ := part_len (Txt.partition row " ").2.2
  rw [← hp] at l1 l2 l3 l4
  obtain ⟨q, hq⟩ : ∃ q, q = Txt.partition p.2.2 " " := ⟨_, rfl⟩
  rw [← hq] at l3 l4
  have eM : rowM row = if q.2.1 = Str.empty then .bad else if p.1 = "well" ∧ figM q.2.2 = true then .well q.1 (numF q.2.2.cps.toList) else if p.1 = "work" then .work q.1 q.2.2 else .bad := by
    unfold rowM
    dsimp only
    rw [← hp, ← hq]
  refine ⟨_, rfl, ⟨_, rfl⟩, row, _, rfl, rfl, by decide +kernel, Nat.le_trans hl (by decide), fun t1 ht1 => ?_⟩
  rw [← hp]
  have s1 := same_new ht1 (.tup [.str p.1, .str p.2.1, .str p.2.2])
  have e1 : (upd H t1 (.tup [.str p.1, .str p.2.1, .str p.2.2])) t1 = some (.tup [.str p.1, .str p.2.1, .str p.2.2]) := upd_same
  revert s1 e1
  generalize upd H t1 (.tup [.str p.1, .str p.2.1, .str p.2.2]) = H1
  intro s1 e1
  refine ⟨t1, _, rfl, SqT.of e1, rfl, _, _, rfl, _, _, rfl, _, _, rfl, rfl, ?_⟩
  refine ⟨_, rfl, ⟨_, rfl⟩, p.2.2, _, rfl, rfl, by decide +kernel, Nat.le_trans (Nat.le_trans l2 hl) (by decide), fun t2 ht2 => ?_⟩
  rw [← hq]
  have s2 := same_new ht2 (.tup [.str q.1, .str q.2.1, .str q.2.2])
  have e2 : (upd H1 t2 (.tup [.str q.1, .str q.2.1, .str q.2.2])) t2 = some (.tup [.str q.1, .str q.2.1, .str q.2.2]) := upd_same
  revert s2 e2
  generalize upd H1 t2 (.tup [.str q.1, .str q.2.1, .str q.2.2]) = H2
  intro s2 e2
  have s12 := s1.trans s2
  refine ⟨t2, _, rfl, SqT.of e2, rfl, _, _, rfl, _, _, rfl, _, _, rfl, rfl, ?_⟩
  refine ⟨_, rfl, rfl, _, rfl, ?_⟩
  by_cases c1 : q.2.1 = Str.empty
  · rw [if_pos c1] at eM
    rw [decide_eq_true (show V.str q.2.1 = V.str "" from by rw [c1]; rfl)]
    exact iteT (q1 eM H2 s12)
  rw [if_neg c1] at eM
  rw [decide_eq_false (show ¬ (V.str q.2.1 = V.str "") from fun w => c1 (V.str.inj w))]
  refine iteF ?_
  have ob2 : H2 A.p = some (.ins C.h A.dx (hallF A)) := s12 _ _ a.ob
  have hno : ∀ {m : Str}, ¬ m = "numbers" → ¬ m = "recipes" → ¬ m = "kept" → ¬ m = "untaken" → ¬ m = "points" → (hallF A).lookup m = none := fun h1 h2 h3 h4 h5 => hallF_no A h1 h2 h3 h4 h5
  have lq2 : q.2.2.length ≤ row.length := Nat.le_trans l4 l2
  have lq1 : q.1.length ≤ row.length := Nat.le_trans l3 l2
  have work : ∀ σ : L2.St, True := fun _ => trivial
  refine ⟨_, rfl, rfl, _, rfl, ?_⟩
  by_cases c2 : p.1 = "well"
  · rw [decide_eq_true (show V.str p.1 = V.str "well" from by rw [c2])]
    refine iteT ⟨_, rfl, q.2.2, rfl, Nat.le_trans lq2 hl, fun H3 s3 => ⟨_, rfl, ?_⟩⟩
    have s13 := s12.trans s3
    by_cases c3 : figM q.2.2 = true
    · rw [if_pos ⟨c2, c3⟩] at eM
      rw [c3]
      refine iteT ?_
      obtain ⟨f1, f2, f3⟩ := fig_int c3
      have f0 := of_decide_eq_true (Bool.and_eq_true_iff.mp c3).1
      refine ⟨_, rfl, A.p, A.dx, _, rfl, s3 _ _ ob2, hno (by decide +kernel) (by decide +kernel) (by decide +kernel) (by decide +kernel) (by decide +kernel), _, rfl, _, rfl, q.2.2, _, rfl, f1, by omega, ?_⟩
      exact q2 _ _ eM f2 f3 lq1 H3 s13
    · rw [if_neg (fun w => c3 w.2), if_neg (by rw [c2]; decide +kernel)] at eM
      rw [show figM q.2.2 = false by simpa using c3]
      refine iteF ?_
      refine ⟨_, rfl, rfl, _, rfl, ?_⟩
      rw [decide_eq_false (show ¬ (V.str p.1 = V.str "work") from fun w => by rw [c2] at w; exact absurd (V.str.inj w) (by decide +kernel))]
      exact iteF (q1 eM H3 s13)
  · rw [if_neg (fun w => c2 w.1)] at eM
    rw [decide_eq_false (show ¬ (V.str p.1 = V.str "well") from fun w => c2 (V.str.inj w))]
    refine iteF ?_
    refine ⟨_, rfl, rfl, _, rfl, ?_⟩
    by_cases c3 : p.1 = "work"
    · rw [if_pos c3] at eM
      rw [decide_eq_true (show V.str p.1 = V.str "work" from by rw [c3])]
      refine iteT ?_
      refine ⟨_, rfl, A.p, A.dx, _, rfl, ob2, hno (by decide +kernel) (by decide +kernel) (by decide +kernel) (by decide +kernel) (by decide +kernel), _, rfl, _, rfl, ?_⟩
      exact q3 _ _ eM lq1 lq2 H2 s12
    · rw [if_neg c3] at eM
      rw [decide_eq_false (show ¬ (V.str p.1 = V.str "work") from fun w => c3 (V.str.inj w))]
      exact iteF (q1 eM H2 s12)
end
end Aw

namespace Aw
open PySem L2
/-- what answer_of and the like ask of what they are given to call -/
structure AskIs (S : Type) where
  o : S → Str → Int
  n : S → Str → S
  D : Str → Prop
  J : Nat → S → Prop
  R : S → Hp → Prop
  M : Addr → Prop
  ok : AskOk o n D J
  mok : ∀ st H, R st H → MOk M H
  fp : Addr → Prop
  tr : ∀ st H b, R st H → fp b → ∃ u, H b = some u
  up : ∀ st H H', R st H → (∀ b, fp b → H' b = H b) → R st H'
theorem AskIs.same {S : Type} (a : AskIs S) {st : S} {H H' : Hp} (h : a.R st H) (s : Same H H') : a.R st H' := a.up st H H' h fun b hb => by
  obtain ⟨u, e⟩ := a.tr st H b h hb
  rw [e, s b u e]
/-- what is new, or stood new, may change -/
theorem AskIs.put {S : Type} (a : AskIs S) {st st0 : S} {H H0 : Hp} (h : a.R st H) (h0 : a.R st0 H0) {D : Addr} (hD : H0 D = none) (u : HO) : a.R st (upd H D u) := a.up st H _ h fun b hb => by
  obtain ⟨v, e⟩ := a.tr st0 H0 b h0 hb
  rw [upd_ne (ne_of_none e hD)]
/-- what must be tracked at a call stands all the way -/
def Stab {S : Type} (a : AskIs S) (Pre : Hp → Prop) : Prop := ∀ st H H', a.R st H → Pre H → ButS a.M H H' → Pre H'
theorem stab_code {S : Type} (a : AskIs S) (c : Addr) (qn : Str) : Stab a (LPre c qn) := fun _ _ _ hR hp b => b _ _ hp ((a.mok _ _ hR).code hp)
/-- the asking: the answer, the state behind -/
def AskIs.sp {S : Type} (a : AskIs S) : Sp := fun vs H Q _ => ∃ (s : Str) (st : S), vs = [.str s] ∧ a.D s ∧ a.J 1 st ∧ a.R st H ∧ ∀ H', ButS a.M H H' → a.R (a.n st s) H' → Q (.int (a.o st s)) H'
structure TxtA (mg : Str → Option Value) : Prop where
  min : mg "min" = none
  max : mg "max" = none
  sum : mg "sum" = none
theorem ans_gate {S : Type} {o : S → Str → Int} {n : S → Str → S} {s : Str} {b : Int} {t : T} {st : S} : ans o n (.gate s b t) st = if o st s < b then (0, n st s) else ans o n t (n st s) := by
  conv => lhs; unfold ans
theorem szs_len : ∀ l : List T, l.length ≤ Szs l
  | [] => Nat.le_refl 0
  | u :: r => by have := szs_len r; show r.length + 1 ≤ Sz u + 3 + Szs r; omega
end Aw

namespace Aw
open PySem L2
theorem nameOk_len {s : Str} (h : NameOk s) : s.length ≤ 6 := by
  unfold NameOk nameM at h
  have := (Bool.and_eq_true_iff.mp h).1
  exact (of_decide_eq_true this).2
theorem LB_le : ∀ {d : Nat}, d ≤ 2 → LB d ≤ 200
  | 0, _ => by decide
  | 1, _ => by decide
  | 2, _ => by decide
  | _ + 3, h => by omega
def rankKvs : List (Key × V) := [(Sum.inr "most", .int 1), (Sum.inr "least", .int 2), (Sum.inr "sum", .int 3)]
def sepKvs : List (Key × V) := [(Sum.inr "most", .str " | "), (Sum.inr "least", .str " & "), (Sum.inr "sum", .str " + ")]
theorem rank_get (k : Kd) : valV (mergeK [] rankKvs) (Sum.inr k.nm) = some (.int k.rank) := by cases k <;> decide +kernel
theorem sep_get (k : Kd) : valV (mergeK [] sepKvs) (Sum.inr k.nm) = some (.str k.sep) := by cases k <;> decide +kernel
theorem kd_num (k : Kd) : decide (V.str k.nm = V.str "number") = false := by cases k <;> decide +kernel
theorem kd_name (k : Kd) : decide (V.str k.nm = V.str "name") = false := by cases k <;> decide +kernel
theorem kd_gate (k : Kd) : decide (V.str k.nm = V.str "gate") = false := by cases k <;> decide +kernel
theorem cut1 {v : V} {r : List V} : cutV (v :: r) (some 1) none = r := by
  unfold cutV
  rw [HT.sIx_none, show HT.sIx (v :: r).length 0 (some 1) = 1 by rw [show (1 : Int) = ((1 : Nat) : Int) from rfl, HT.sIx_nat, List.length_cons]; omega]
  show (r.take ((v :: r).length - 1)) = r
  rw [List.length_cons, Nat.add_sub_cancel, List.take_length]
end Aw

namespace Aw
open PySem L2
def spShown (n : Nat) : Sp := fun vs H Q _ => ∃ (v : V) (t : T), vs = [v] ∧ TA H v t ∧ WF t ∧ dep t ≤ n ∧ Sz t ≤ 100000 ∧ ∀ H', Same H H' → Q (.str (wr 0 t)) H'
def spWithin (n : Nat) : Sp := fun vs H Q _ => ∃ (o : Option Kd) (v : V) (t : T), vs = [.str (kfs o), v] ∧ TA H v t ∧ WF t ∧ dep t ≤ n ∧ Sz t ≤ 100000 ∧ ∀ H', Same H H' → Q (.str (wr (kff o) t)) H'
structure TxtB (K : PySem.W.Frag) (mg : Str → Option Value) (w : World) : Prop where
  gB : ∃ a, mg "BARE" = some (.ref a) ∧ ∀ o : Option Kd, ∃ b, KDct K w a (kfs o) (.ref b) ∧ ∀ H, SqT K H b ((bare o).map V.str)
theorem app_empty (a : Str) : Str.empty ++ a = a := by
  show (⟨#[] ++ a.cps⟩ : Str) = a
  rw [Array.empty_append]
theorem TA.headIs {H : Hp} {v : V} {t : T} (h : TA H v t) : ∃ a xs, v = .ref a ∧ H a = some (.tup (.str (kinds_of t) :: xs)) := by
  cases h with
  | num e => exact ⟨_, _, rfl, e⟩
  | name e => exact ⟨_, _, rfl, e⟩
  | gate e _ => exact ⟨_, _, rfl, e⟩
  | join e _ _ => exact ⟨_, _, rfl, e⟩
section
variable {P : Program} {w : World} {K : PySem.W.Frag} {mg : Str → Option Value} {base : Heap} {f : Addr} {fd : FuncData}
theorem ok_within {n k : Nat} {g : Addr} {gd : FuncData} (F : Fun K "shown_within" "shown_within" s_shown_within f fd) (TB : TxtB K mg w) (G : FnOk P w K mg base CX0 k g gd ["recipe"] (spShown n)) (b : Binds K gd ["recipe"] []) (kG : PySem.W.keepIn K (.ref g) = true) (m : mg "shown" = some (.ref g)) :
    FnOk P w K mg base CX0 (k + 1) f fd ["kind", "piece"] (spWithin n) := by
  obtain ⟨aB, gB, tB⟩ := TB.gB
  refine F.ok sc_shown_within (fun vs H Q E h => ?_) (fun cdv A outer s H vs Q E hr h => ?_)
  · obtain ⟨o, v, t, rfl, _⟩ := h
    rfl
  obtain ⟨o, v, t, rfl, tv, wf, dp, sz, q⟩ := h
  have nd := sc_shown_within.nd
  refine ⟨_, pss_cons (ps_set (i := 2) nd rfl (.inl rfl) (pe_call G hr rfl m kG b .nil pass0 (pa_cons (pv 1) pa_nil)))
    (pss_cons (ps_if (pt_cmpR op_in_seq (pe_ix ix_tup (pv 1) pe_int (fun _ _ => rfl)) (pe_ix ix_kdict (pe_glob (v := .ref aB) rfl gB rfl) (pv 0) (fun _ _ => rfl)) rfl) (pss_one (ps_ret (pv 2))) pss_nil)
    (pss_one (ps_ret (pe_joined (.cons pe_str (.cons (pe_fmt (pv 2)) (.cons pe_str .nil))))))), ?_⟩
  refine ⟨_, rfl, v, t, rfl, tv, wf, dp, sz, fun H1 s1 => ?_⟩
  obtain ⟨a, xs, rfl, e⟩ := tv.headIs
  obtain ⟨bt, kb, sb⟩ := tB o
  refine ⟨_, rfl, a, _, _, .str (kinds_of t), rfl, rfl, SqT.of (s1 _ _ e), atI_nat (j := 0) rfl, ?_⟩
  refine ⟨_, rfl, aB, kfs o, _, rfl, rfl, kb, bt, _, rfl, .inr (sb H1), rfl, flat_strs _, _, rfl, ?_⟩
  have r := q H1 s1
  rw [bare_iff] at r
  rw [show (if false = true then !inV (V.str (kinds_of t)) ((bare o).map V.str) else inV (V.str (kinds_of t)) ((bare o).map V.str)) = decide (kinds_of t ∈ bare o) from in_strs _ _]
  have l0 := wr_Sz t 0 wf
  by_cases c : kinds_of t ∈ bare o
  · rw [if_pos c] at r
    rw [decide_eq_true c]
    exact iteT ⟨_, rfl, r⟩
  · rw [if_neg c] at r
    rw [decide_eq_false c]
    refine iteF ⟨_, rfl, ?_, _, rfl, .inl ⟨wr 0 t, rfl, Nat.le_trans l0 (big sz), wr 0 t, rfl, ?_, _, rfl, ?_, ?_⟩⟩
    · exact big (by show 0 + 1 ≤ 100000; decide)
    · rw [len_app]
      refine Nat.le_trans (show 0 + 1 + (wr 0 t).length ≤ 100001 by omega) (by decide)
    · rw [len_app, len_app]
      refine Nat.le_trans (show 0 + 1 + (wr 0 t).length + 1 ≤ 100002 by omega) (by decide)
    · rw [app_empty]
      exact r
theorem ok_shown0 (F : Fun K "shown" "shown" s_shown f fd) (st : mg "str" = none) : FnOk P w K mg base CX0 1 f fd ["recipe"] (spShown 0) := by
  refine F.ok sc_shown (fun vs H Q E h => ?_) (fun cdv A outer s H vs Q E hr h => ?_)
  · obtain ⟨v, t, rfl, _⟩ := h
    rfl
  obtain ⟨v, t, rfl, tv, wf, dp, sz, q⟩ := h
  have nd := sc_shown.nd
  refine ⟨_, pss_cons (ps_set (i := 1) nd rfl (.inr rfl) (pe_ix ix_tup (pv 0) pe_int (fun _ _ => rfl)))
    (pss_cons (ps_if (pt_cmpR op_eq (pv 1) pe_str (nomark _)) (pss_one (ps_ret (pe_callTy call_str_int (by rfl) st (by decide +kernel) (pa_cons (pe_ix ix_tup (pv 0) pe_int (fun _ _ => rfl)) pa_nil)))) pss_nil)
    (pss_cons (ps_if (pt_cmpR op_eq (pv 1) pe_str (nomark _)) (pss_one (ps_ret (pe_ix ix_tup (pv 0) pe_int (fun _ _ => rfl)))) pss_nil)
    (pss_cons ps_never (pss_cons ps_never (pss_cons ps_never (pss_one ps_never)))))), ?_⟩
  cases tv with
  | @num a n e =>
    exact ⟨_, rfl, a, _, _, _, rfl, rfl, SqT.of e, rfl, _, rfl, rfl, _, rfl, iteT ⟨_, rfl, a, _, _, _, rfl, rfl, SqT.of e, rfl, n, rfl, small_tx wf.1 (by have := wf.2; omega), q H (Same.refl H)⟩⟩
  | @name a z e =>
    refine ⟨_, rfl, a, _, _, _, rfl, rfl, SqT.of e, rfl, _, rfl, rfl, _, rfl, ?_⟩
    refine iteF ⟨_, rfl, rfl, _, rfl, ?_⟩
    exact iteT ⟨_, rfl, a, _, _, _, rfl, rfl, SqT.of e, rfl, q H (Same.refl H)⟩
  | gate e _ => exact absurd dp (by unfold dep; omega)
  | join e _ _ => exact absurd dp (by unfold dep; omega)
theorem ok_shownS {n k : Nat} {g : Addr} {gd : FuncData} (hk : 1 ≤ k) (F : Fun K "shown" "shown" s_shown f fd) (st : mg "str" = none) (TC : TxtC K mg w) (G : FnOk P w K mg base CX0 k g gd ["kind", "piece"] (spWithin n)) (b : Binds K gd ["kind", "piece"] []) (kG : PySem.W.keepIn K (.ref g) = true) (m : mg "shown_within" = some (.ref g)) :
    FnOk P w K mg base CX0 (k + 1) f fd ["recipe"] (spShown (n + 1)) := by
  obtain ⟨aS, gS, tS⟩ := TC.gSg
  refine F.ok sc_shown (fun vs H Q E h => ?_) (fun cdv A outer s H vs Q E hr h => ?_)
  · obtain ⟨v, t, rfl, _⟩ := h
    rfl
  obtain ⟨v, t, rfl, tv, wf, dp, sz, q⟩ := h
  have nd := sc_shown.nd
  refine ⟨_, pss_cons (ps_set (i := 1) nd rfl (.inr rfl) (pe_ix ix_tup (pv 0) pe_int (fun _ _ => rfl)))
    (pss_cons (ps_if (pt_cmpR op_eq (pv 1) pe_str (nomark _)) (pss_one (ps_ret (pe_callTy call_str_int (by rfl) st (by decide +kernel) (pa_cons (pe_ix ix_tup (pv 0) pe_int (fun _ _ => rfl)) pa_nil)))) pss_nil)
    (pss_cons (ps_if (pt_cmpR op_eq (pv 1) pe_str (nomark _)) (pss_one (ps_ret (pe_ix ix_tup (pv 0) pe_int (fun _ _ => rfl)))) pss_nil)
    (pss_cons (ps_if (pt_cmpR op_eq (pv 1) pe_str (nomark _))
      (pss_cons (ps_asg (pv 0) (pg_tup (by rfl) (pgs_cons (pg_name (i := 2) nd rfl (.inl rfl)) (pgs_cons (pg_name (i := 3) nd rfl (.inl rfl)) (pgs_cons (pg_name (i := 4) nd rfl (.inl rfl)) (pgs_cons (pg_name (i := 5) nd rfl (.inl rfl)) pgs_nil))))))
      (pss_one (ps_ret (pe_joined (.cons pe_str (.cons (pe_fmt (pv 3)) (.cons pe_str (.cons (pe_fmt (pv 4)) (.cons pe_str (.cons (pe_fmt (pe_call G hr rfl m kG b .nil pass0 (pa_cons (pv 1) (pa_cons (pv 5) pa_nil)))) .nil)))))))))) pss_nil)
    (pss_cons (ps_setLc (i := 6) (own := [("piece", 5)]) (g := gName 5) rfl nd rfl rfl (sw_true rfl rfl rfl (by decide +kernel)) (pi_tup (pe_ix ix_tup (pv 0) pe_int (fun _ _ => rfl))) (blkOk_by (N := ["recipe", "kind", "_", "name", "bound", "piece", "parts", "sign"]) (sc := defScope s_shown) (by decide +kernel))
      (fun _ _ _ _ _ => pg_name (i := 5) nd rfl (.inl rfl)) (fun _ _ _ _ _ => pts_nil) (fun _ _ _ _ _ => pe_call G hr rfl m kG b .nil pass0 (pa_cons (pv 1) (pa_cons (pv 5) pa_nil))))
    (pss_cons (ps_set (i := 7) nd rfl (.inl rfl) (pe_joined (.cons pe_str (.cons (pe_fmt (pe_ix ix_kdict (pe_glob (v := .ref aS) rfl gS rfl) (pv 1) (fun _ _ => rfl))) (.cons pe_str .nil)))))
    (pss_one (ps_ret (pe_join (pv 7) (pv 6))))))))), ?_⟩
  cases tv with
  | @num a n e =>
    exact ⟨_, rfl, a, _, _, _, rfl, rfl, SqT.of e, rfl, _, rfl, rfl, _, rfl, iteT ⟨_, rfl, a, _, _, _, rfl, rfl, SqT.of e, rfl, n, rfl, small_tx wf.1 (by have := wf.2; omega), q H (Same.refl H)⟩⟩
  | @name a z e =>
    refine ⟨_, rfl, a, _, _, _, rfl, rfl, SqT.of e, rfl, _, rfl, rfl, _, rfl, ?_⟩
    refine iteF ⟨_, rfl, rfl, _, rfl, ?_⟩
    exact iteT ⟨_, rfl, a, _, _, _, rfl, rfl, SqT.of e, rfl, q H (Same.refl H)⟩
  | @gate a z bd v1 t1 e tv1 =>
    obtain ⟨hb, wf1⟩ := wf
    have sz' : z.length + 8 + Sz t1 ≤ 100000 := sz
    have l2 := tx_len hb
    have l3 := wr_Sz t1 4 wf1
    refine ⟨_, rfl, a, _, _, _, rfl, rfl, SqT.of e, rfl, _, rfl, rfl, _, rfl, ?_⟩
    refine iteF ⟨_, rfl, rfl, _, rfl, ?_⟩
    refine iteF ⟨_, rfl, rfl, _, rfl, ?_⟩
    refine iteT ⟨_, rfl, a, _, rfl, SqT.of e, rfl, _, _, rfl, _, _, rfl, _, _, rfl, _, _, rfl, rfl, ?_⟩
    refine ⟨_, rfl, ?_, _, rfl, .inl ⟨z, rfl, big (by omega), z, rfl, ?_, _, rfl, ?_, ?_⟩⟩
    · exact big (by show 0 + 1 ≤ 100000; decide)
    · rw [len_app]; exact big (by show 0 + 1 + z.length ≤ _; omega)
    · rw [len_app, len_app]; exact big (by show 0 + 1 + z.length + 1 ≤ _; omega)
    refine ⟨_, rfl, .inr ⟨bd, rfl, small_tx hb.1 (by omega), tx bd, rfl, ?_, _, rfl, ?_, ?_⟩⟩
    · rw [len_app, len_app, len_app]; exact big (by show 0 + 1 + z.length + 1 + (tx bd).length ≤ _; omega)
    · rw [len_app, len_app, len_app, len_app]; exact big (by show 0 + 1 + z.length + 1 + (tx bd).length + 2 ≤ _; omega)
    refine ⟨_, rfl, _, rfl, none, v1, t1, rfl, tv1, wf1, (by unfold dep at dp; omega), by omega, fun H1 s1 => ?_⟩
    refine .inl ⟨wr 4 t1, rfl, big (by omega), wr 4 t1, rfl, ?_, ?_⟩
    · rw [len_app, len_app, len_app, len_app, len_app]
      exact big (by show 0 + 1 + z.length + 1 + (tx bd).length + 2 + (wr 4 t1).length ≤ _; omega)
    · have r := q H1 s1
      unfold wr at r
      rw [app_empty]
      exact r
  | @join a p kd vs ts e e2 tvs =>
    obtain ⟨h0, wfs⟩ := wf
    have sz' : 2 + Szs ts ≤ 100000 := sz
    have dp' : deps ts ≤ n := by unfold dep at dp; omega
    refine ⟨_, rfl, a, _, _, _, rfl, rfl, SqT.of e, rfl, _, rfl, rfl, _, rfl, ?_⟩
    rw [kd_num]
    refine iteF ⟨_, rfl, rfl, _, rfl, ?_⟩
    rw [kd_name]
    refine iteF ⟨_, rfl, rfl, _, rfl, ?_⟩
    rw [kd_gate]
    refine iteF ⟨_, rfl, a, _, _, _, rfl, rfl, SqT.of e, rfl, p, rfl, ⟨_, SqT.of e2⟩, fun D hD => ?_⟩
    refine walk_gen (walk_tup (K := K) (a := p) (xs := vs)) (fun i H' => Same H H' ∧ H' D = some (.lst (((ts.take i).map (wr (kd.rank + 1))).map V.str))) ⟨same_new hD _, upd_same⟩ (fun i H' _ h => SqT.of (h.1 _ _ e2)) ?_ ?_
    · rintro i x H1 H2 hi ⟨s1, e1⟩ ⟨rfl, hx⟩
      obtain ⟨t5, ht5, tv5⟩ := tvs.get hx
      have m5 := List.mem_of_getElem? ht5
      refine ⟨rfl, ?_⟩
      refine ⟨_, rfl, _, rfl, some kd, x, t5, rfl, tv5.mono (.of_same s1), wfs.mem m5, Nat.le_trans (dep_mem m5) dp', (by have := Sz_mem m5; omega), fun H5 s5 => ?_⟩
      refine ⟨_, s5 _ _ e1, ?_, same_upd (s1.trans s5) hD _, ?_⟩
      · rw [List.length_map, List.length_map, List.length_take]
        have g : ∀ l : List T, l.length ≤ Szs l := by
          intro l
          induction l with
          | nil => exact Nat.le_refl _
          | cons u r ih => show r.length + 1 ≤ Sz u + 3 + Szs r; omega
        have := g ts
        exact Nat.lt_of_le_of_lt (by omega : min i ts.length ≤ 100000) (by decide)
      · rw [upd_same, take_more ht5, List.map_append, List.map_append]
        rfl
    · rintro H1 ⟨s1, e1⟩
      rw [tvs.length, List.take_length] at e1
      have ls := sum_Sz (kd.rank + 1) ts wfs
      have l1 : kd.sg.length = 1 := by cases kd <;> decide +kernel
      refine ⟨_, rfl, big (by show 0 + 1 ≤ 100000; decide), _, rfl, aS, kd.nm, _, rfl, rfl, tS kd, .inl ⟨kd.sg, rfl, big (by omega), kd.sg, rfl, ?_, _, rfl, ?_, ?_⟩⟩
      · rw [len_app]; exact big (by show 0 + 1 + kd.sg.length ≤ _; omega)
      · rw [len_app, len_app]; exact big (by show 0 + 1 + kd.sg.length + 1 ≤ _; omega)
      · have es : Str.empty ++ " " ++ kd.sg ++ " " = kd.sep := by rw [app_empty]; rfl
        refine ⟨_, rfl, ⟨_, rfl⟩, _, rfl, _, D, ts.map (wr (kd.rank + 1)), rfl, rfl, .inl (SqL.of e1), ?_, ?_⟩
        · show _ + _ * (Str.empty ++ " " ++ kd.sg ++ " ").length ≤ _
          rw [es, List.length_map, sep_len]
          omega
        · show Q (.str (Txt.join (Str.empty ++ " " ++ kd.sg ++ " ") (ts.map (wr (kd.rank + 1))))) H1
          rw [es, TL.join_eq, ← wrs_join]
          have r := q H1 s1
          unfold wr at r
          rw [if_neg (by cases kd <;> decide)] at r
          exact r
end
end Aw

namespace Aw
open PySem L2
section
variable {P : Program} {w : World} {K : PySem.W.Frag} {mg : Str → Option Value} {base : Heap} {f : Addr} {fd : FuncData} {C : HC}
theorem ok_wells (F : Fun K "wells" "Hall.wells" s_Hall_wells f fd) (T : TxtH K mg C) (zs : mg "sorted" = none) : FnOk P w K mg base CX0 1 f fd ["self"] (spWellsH C) := by
  refine F.ok sc_Hall_wells (fun vs H Q E h => ?_) (fun cdv A outer s H vs Q E hr h => ?_)
  · obtain ⟨A, W, h, rfl, _⟩ := h
    rfl
  obtain ⟨A, W, h, rfl, a, hl, hnd, q⟩ := h
  have nd := sc_Hall_wells.nd
  refine ⟨_, pss_one (ps_ret (pe_dc (own := [("name", 1)]) (g := gName 1) (tv := tDGet (tFld K (tVar 0) "numbers") (tVar 1)) rfl nd (pi_list (pe_callB (call_sortedD rfl) (by rfl) zs (by decide +kernel) (pa_cons (pe_fld (pv 0) rfl) pa_nil))) (blkOk_by (N := ["self", "name"]) (sc := defScope s_Hall_wells) (by decide +kernel))
      (fun _ _ _ _ _ => pg_name (i := 1) nd rfl (.inl rfl)) (fun _ _ _ _ _ => pts_nil) (fun _ _ _ _ _ => pv 1) (fun _ _ _ _ _ => pe_dget (hu_of hr) (pe_fld (pv 0) rfl) (pv 1) (fun _ _ => rfl)))), ?_⟩
  obtain ⟨kn, en, dn⟩ := a.n
  refine ⟨_, rfl, A.p, C.h, A.dx, _, _, rfl, a.ob, T.cl, T.nN, hallF_n A, A.n, kn, akeys h.nums, rfl, .inl en, dn.keys, by unfold akeys; rw [List.length_map]; omega, fun ys l hp hs hnl => ?_⟩
  have s1 := same_new hnl (.lst (ys.map V.str))
  have ynd : ys.Nodup := hp.nodup_iff.mpr hnd
  have yl := hp.length_eq
  unfold akeys at yl
  rw [List.length_map] at yl
  refine ⟨l, rfl, ⟨_, SqL.of upd_same⟩, fun D hD => ?_⟩
  have nlD : l ≠ D := ne_of_none upd_same hD
  have hDH := s1.free hD
  refine walk_gen (walk_list (K := K) (a := l) (xs := ys.map V.str)) (fun i H' => Same H H' ∧ H' l = some (.lst (ys.map V.str)) ∧ H' D = some (.dK ((ys.take i).map fun s => ((Sum.inr s : Key), V.int (numOf h.nums s)))))
    ⟨s1.trans (same_new hD _), by rw [upd_ne nlD]; exact upd_same, upd_same⟩ (fun i H' _ h => SqL.of h.2.1) ?_ ?_
  · rintro i x HA HB hi ⟨sA, el, eD⟩ ⟨rfl, hx⟩
    obtain ⟨z, hz, rfl⟩ := mk_str hx
    have aB := a.same sA
    have hzk : z ∈ akeys h.nums := hp.mem_iff.mp (List.mem_of_getElem? hz)
    refine ⟨rfl, ?_⟩
    refine ⟨_, rfl, _, rfl, A.p, C.h, A.dx, _, _, rfl, aB.ob, T.cl, T.nN, hallF_n A, _, rfl, A.n, .int (numOf h.nums z), rfl, by rw [← num_in dn hzk]; exact DGet.k (k := Sum.inr z) (sA _ _ en), ?_⟩
    refine ⟨_, Sum.inr z, rfl, eD, ?_, same_upd sA hDH _, by rw [upd_ne nlD]; exact el, ?_⟩
    · rw [List.length_map, List.length_take]; exact small1000 (by omega)
    · rw [upd_same, putK_new _ (val_map (g := fun s => V.int (numOf h.nums s)) (not_in_take ynd hz)), take_more hz, List.map_append]
      rfl
  · rintro HA ⟨sA, el, eD⟩
    rw [List.length_map, List.take_length] at eD
    exact q D ys HA sA hDH hp (sorted_pair hs) eD
end
end Aw

namespace Aw
open PySem L2
/-! ### works, shown -/
def spWorksH (C : HC) : Sp := fun vs H Q _ => ∃ (A : HA) (W : Addr → Prop) (h : Hl), vs = [.ref A.p] ∧ HallAt C W H A h ∧ h.recs.length ≤ 60 ∧ (akeys h.recs).Nodup ∧ (∀ p ∈ h.recs, WF p.2 ∧ dep p.2 ≤ 2 ∧ Sz p.2 ≤ 100000) ∧
  ∀ (p : Addr) (ys : List Str) (H' : Hp), Same H H' → H p = none → ys.Perm (akeys h.recs) → ys.Pairwise sle → H' p = some (.dK (ys.map fun s => ((Sum.inr s : Key), V.str (wr 0 (recOf h.recs s))))) → Q (.ref p) H'
section
variable {P : Program} {w : World} {K : PySem.W.Frag} {mg : Str → Option Value} {base : Heap} {f : Addr} {fd : FuncData} {C : HC}
set_option maxHeartbeats 0 in
theorem ok_worksH {g : Addr} {gd : FuncData} (F : Fun K "works" "Hall.works" s_Hall_works f fd) (T : TxtH K mg C) (zs : mg "sorted" = none) (G : FnOk P w K mg base CX0 5 g gd ["recipe"] (spShown 2)) (b : Binds K gd ["recipe"] []) (kG : PySem.W.keepIn K (.ref g) = true) (m : mg "shown" = some (.ref g)) :
    FnOk P w K mg base CX0 6 f fd ["self"] (spWorksH C) := by
  refine F.ok sc_Hall_works (fun vs H Q E h => ?_) (fun cdv A outer s H vs Q E hr h => ?_)
  · obtain ⟨A, W, h, rfl, _⟩ := h
    rfl
  obtain ⟨A, W, h, rfl, a, hl, hnd, hts, q⟩ := h
  have nd := sc_Hall_works.nd
  refine ⟨_, pss_one (ps_ret (pe_dc (own := [("name", 1)]) (g := gName 1) (tv := tCall (spShown 2) [] E0 (tCons (tDGet (tFld K (tVar 0) "recipes") (tVar 1)) tNil)) rfl nd (pi_list (pe_callB (call_sortedD rfl) (by rfl) zs (by decide +kernel) (pa_cons (pe_fld (pv 0) rfl) pa_nil))) (blkOk_by (N := ["self", "name"]) (sc := defScope s_Hall_works) (by decide +kernel))
      (fun _ _ _ _ _ => pg_name (i := 1) nd rfl (.inl rfl)) (fun _ _ _ _ _ => pts_nil) (fun _ _ _ _ _ => pv 1) (fun _ _ _ _ _ => pe_call G hr rfl m kG b .nil pass0 (pa_cons (pe_dget (hu_of hr) (pe_fld (pv 0) rfl) (pv 1) (fun _ _ => rfl)) pa_nil)))), ?_⟩
  obtain ⟨kr, er, dr⟩ := a.r
  refine ⟨_, rfl, A.p, C.h, A.dx, _, _, rfl, a.ob, T.cl, T.nR, hallF_r A, A.r, kr, akeys h.recs, rfl, .inl er, dr.keys, by unfold akeys; rw [List.length_map]; omega, fun ys l hp hs hnl => ?_⟩
  have s1 := same_new hnl (.lst (ys.map V.str))
  have ynd : ys.Nodup := hp.nodup_iff.mpr hnd
  have yl := hp.length_eq
  unfold akeys at yl
  rw [List.length_map] at yl
  refine ⟨l, rfl, ⟨_, SqL.of upd_same⟩, fun D hD => ?_⟩
  have nlD : l ≠ D := ne_of_none upd_same hD
  have hDH := s1.free hD
  refine walk_gen (walk_list (K := K) (a := l) (xs := ys.map V.str)) (fun i H' => Same H H' ∧ H' l = some (.lst (ys.map V.str)) ∧ H' D = some (.dK ((ys.take i).map fun s => ((Sum.inr s : Key), V.str (wr 0 (recOf h.recs s))))))
    ⟨s1.trans (same_new hD _), by rw [upd_ne nlD]; exact upd_same, upd_same⟩ (fun i H' _ h => SqL.of h.2.1) ?_ ?_
  · rintro i x HA HB hi ⟨sA, el, eD⟩ ⟨rfl, hx⟩
    obtain ⟨z, hz, rfl⟩ := mk_str hx
    have aB := a.same sA
    have hzk : z ∈ akeys h.recs := hp.mem_iff.mp (List.mem_of_getElem? hz)
    obtain ⟨t, et⟩ := alk_in hzk
    obtain ⟨kr', er', dr'⟩ := aB.r
    obtain ⟨v, ev, tv⟩ := dr'.some et
    obtain ⟨w1, w2, w3⟩ := hts _ (alk_mem et)
    have ert : recOf h.recs z = t := by unfold recOf; rw [et]; rfl
    refine ⟨rfl, ?_⟩
    refine ⟨_, rfl, _, rfl, A.p, C.h, A.dx, _, _, rfl, aB.ob, T.cl, T.nR, hallF_r A, _, rfl, A.r, v, rfl, by rw [← ev]; exact DGet.k (k := Sum.inr z) er', v, t, rfl, tv, w1, w2, w3, fun HC sC => ?_⟩
    refine ⟨_, Sum.inr z, rfl, sC _ _ eD, ?_, same_upd (sA.trans sC) hDH _, by rw [upd_ne nlD]; exact sC _ _ el, ?_⟩
    · rw [List.length_map, List.length_take]; exact small1000 (by omega)
    · rw [upd_same, putK_new _ (val_map (g := fun s => V.str (wr 0 (recOf h.recs s))) (not_in_take ynd hz)), take_more hz, List.map_append, ← ert]
      rfl
  · rintro HA ⟨sA, el, eD⟩
    rw [List.length_map, List.take_length] at eD
    exact q D ys HA sA hDH hp (sorted_pair hs) eD
end
end Aw

namespace Aw
open PySem L2
structure DfQ (P : Program) (w : World) (K : PySem.W.Frag) (mg : Str → Option Value) (base : Heap) (CX : CXT) (k : Nat) (x : Str) (ps : List Str) (sp : Sp) (f : Addr) (fd : FuncData) : Prop where
  ok : FnOk P w K mg base CX k f fd ps sp
  b : Binds K fd ps []
  k : PySem.W.keepIn K (.ref f) = true
  m : mg x = some (.ref f)
structure HmQ (P : Program) (w : World) (K : PySem.W.Frag) (mg : Str → Option Value) (base : Heap) (CX : CXT) (c : Addr) (k : Nat) (x : Str) (ps : List Str) (sp : Sp) (f : Addr) (fd : FuncData) : Prop where
  ok : FnOk P w K mg base CX k f fd ps sp
  b : Binds K fd ps []
  m : Meth K c x f
end Aw

namespace Aw
open PySem L2
/-! ### a hall opened from rows -/
inductive Rf where
  | row | name | num | rcp | full
def Rf.cls (NN NB N NF NR : Addr) : Rf → Addr
  | .row => NR
  | .name => NN
  | .num => NB
  | .rcp => N
  | .full => NF
open Classical in
noncomputable def doRow (h : Hl) (row : Str) : Rf ⊕ Hl := match rowM row with
  | .bad => .inl .row
  | .well z i => if nameM z = false then .inl .name else if ¬ (0 ≤ i ∧ i ≤ 30) then .inl .num else if ¬ roomy h z then .inl .full else .inr (putH h z i)
  | .work z x => if nameM z = false then .inl .name else match readM x with
    | none => .inl .rcp
    | some t => if ¬ roomy h z then .inl .full else .inr (makeH h z t)
noncomputable def openM : Hl → List Str → Rf ⊕ Hl
  | h, [] => .inr h
  | h, r :: rs => match doRow h r with
    | .inl e => .inl e
    | .inr h' => openM h' rs
/-- a hall in which nothing was asked -/
structure Frs (h : Hl) : Prop where
  k : h.kept = []
  u : h.unt = []
  p : h.pts = []
theorem Frs.put {h : Hl} (f : Frs h) (z : Str) (i : Int) : Frs (putH h z i) := ⟨f.k, f.u, f.p⟩
theorem Frs.make {h : Hl} (f : Frs h) (z : Str) (t : T) : Frs (makeH h z t) := ⟨f.k, f.u, f.p⟩
theorem HallAt.any {C : HC} {W W' : Addr → Prop} {H : Hp} {A : HA} {h : Hl} (a : HallAt C W H A h) (f : Frs h) (o : ∀ b, A.own b → W' b) : HallAt C W' H A h := by
  obtain ⟨kk, ek, dk⟩ := a.k
  obtain ⟨vu, eu, lu⟩ := a.u
  obtain ⟨vt, et, lt⟩ := a.t
  rw [f.k] at dk
  rw [f.u] at lu
  rw [f.p] at lt
  cases dk
  cases lu
  cases lt
  exact ⟨a.ob, a.n, a.r, ⟨[], ek, by rw [f.k]; exact .nil⟩, ⟨[], eu, by rw [f.u]; exact .nil⟩, ⟨[], et, by rw [f.p]; exact .nil⟩, a.nr, a.nk, a.rk, a.ut, o⟩
theorem aput_len {α : Type} (m : AL α) (s : Str) (x : α) : (aput m s x).length ≤ m.length + 1 := by
  have h := congrArg List.length (show akeys (aput m s x) = akeys (aput m s x) from rfl)
  unfold aput
  split
  · rw [List.length_map]; omega
  · rw [List.length_append]; exact Nat.le_refl _
theorem adel_len {α : Type} (m : AL α) (s : Str) : (adel m s).length ≤ m.length := List.length_filter_le _ _
def spOpened (C : HC) (NN NB N NF NR : Addr) (K : PySem.W.Frag) : Sp := fun vs H Q E => ∃ (l : Addr) (rs : List Str), vs = [.ref l] ∧ H l = some (.lst (rs.map V.str)) ∧ rs.length ≤ 500 ∧ (∀ r ∈ rs, r.length ≤ 1000) ∧
  (∀ e, openM hl0 rs = .inl e → ∀ H', Same H H' → E (.ref (e.cls NN NB N NF NR)) none H') ∧
  (∀ h, openM hl0 rs = .inr h → ∀ (A : HA) (H' : Hp), (∀ b, A.own b → H b = none) → Same H H' → Frs h → (∀ W : Addr → Prop, (∀ b, A.own b → W b) → HallAt C W H' A h) → Q (.ref A.p) H')
section
variable {P : Program} {w : World} {K : PySem.W.Frag} {mg : Str → Option Value} {base : Heap} {f : Addr} {fd : FuncData} {C : HC} {NN NB N NF NR : Addr}
set_option maxHeartbeats 0 in
theorem ok_opened {g1 fi : Addr} {d1 di : FuncData} (F : Fun K "opened" "opened" s_opened f fd) (G : FnOk P w K mg base (L2.CX P w) 29 g1 d1 ["hall", "row"] (spDoRow C NN NB N NF NR)) (b : Binds K d1 ["hall", "row"] []) (k : PySem.W.keepIn K (.ref g1) = true) (m : mg "do_row" = some (.ref g1))
    (M : Mk K C.h fi) (gH : mg "Hall" = some (.ref C.h)) (GI : FnOk P w K mg base CX0 1 fi di ["self"] (spHInit C)) (bI : Binds K di ["self"] []) :
    FnOk P w K mg base (L2.CX P w) 30 f fd ["rows"] (spOpened C NN NB N NF NR K) := by
  refine F.okX sc_opened (fun vs H Q E h => ?_) (fun cdv A0 outer s H vs Q E hr h => ?_)
  · obtain ⟨l, rs, rfl, _⟩ := h
    rfl
  obtain ⟨l, rs, rfl, hl, h500, hrl, qe, qh⟩ := h
  have nd := sc_opened.nd
  have hr2 : Room 2 _ := hr.mono (by decide)
  refine ⟨_, pss_cons (ps_set (i := 1) nd rfl (.inl rfl) (pe_make0 M GI hr2 rfl gH bI .nil pass0))
    (pss_cons (ps_for (passes_of rfl) rfl (pi_list (pv 0)) (pg_name (i := 2) nd rfl (.inl rfl))
      (pss_one (ps_expr (pe_call (E := E) G hr rfl m k b .nil (passes_call (W := fun cls d _ H => E cls d H) (takes_of rfl rfl rfl rfl) (fun _ _ _ _ h => h)) (pa_cons (pv 1) (pa_cons (pv 2) pa_nil))))))
    (pss_one (ps_ret (pv 1)))), ?_⟩
  refine fun p0 dx0 np0 nd0 ne0 => ⟨p0, dx0, rfl, upd_same, fun A H5 ep0 ed0 own0 b5 mk0 => ⟨rfl, ?_⟩⟩
  have s5 : Same H H5 := fun b o e => b5 b o (by rw [upd_ne (ne_of_none e np0), upd_ne (ne_of_none e nd0)]; exact e) (ne_of_none e np0)
  have own5 : ∀ b, A.own b → H b = none := fun b o => by
    rcases own0 b o with z | z
    · rw [z]; exact np0
    · cases e : H b with
      | none => rfl
      | some u => rw [upd_ne (ne_of_none e np0), upd_ne (ne_of_none e nd0), e] at z; cases z
  have hl5 := s5 _ _ hl
  have same_own : ∀ {H1 H2 : Hp}, Same H H1 → Stay2 A H1 H2 → Same H H2 := fun {H1 H2} s st b o e => st b o (s _ _ e) (fun w => by rw [w, own5 _ (.inr (.inl rfl))] at e; cases e) (fun w => by rw [w, own5 _ (.inr (.inr (.inl rfl)))] at e; cases e)
  refine ⟨_, rfl, l, rfl, ⟨_, SqL.of hl5⟩, for_list (K := K) (a := l) (xs := rs.map V.str) (fun i σ H' => ∃ (v2 : Option V) (h : Hl), σ = [some (.ref l), some (.ref p0), v2] ∧ Same H H' ∧ HallAt C A.own H' A h ∧ Frs h ∧ h.nums.length ≤ i ∧ h.recs.length ≤ i ∧ openM hl0 rs = openM h (rs.drop i)) ⟨none, hl0, rfl, s5, mk0 _ fun _ w => w, ⟨rfl, rfl, rfl⟩, Nat.le_refl _, Nat.le_refl _, rfl⟩
    (fun i σ H' _ ⟨_, _, _, s, _⟩ => SqL.of (s _ _ hl)) ?_ ?_⟩
  · rintro i v σ H7 hi ⟨v2, h, rfl, s7, a7, f7, n7, r7, e7⟩
    obtain ⟨row, hrow, rfl⟩ := mk_str hi
    have il : i < rs.length := (List.getElem?_eq_some_iff.mp hrow).1
    have hdrop : rs.drop i = row :: rs.drop (i + 1) := by
      rw [List.drop_eq_getElem_cons il]
      congr 1
      exact (List.getElem?_eq_some_iff.mp hrow).2
    rw [hdrop] at e7
    have eo : ∀ e, doRow h row = .inl e → openM hl0 rs = .inl e := fun e he => by
      rw [e7]; unfold openM; rw [he]
    have eh : ∀ h', doRow h row = .inr h' → openM hl0 rs = openM h' (rs.drop (i + 1)) := fun h' he => by
      rw [e7]
      conv => lhs; unfold openM
      rw [he]
    have rl := hrl row (List.mem_of_getElem? hrow)
    have ep0' : A.p = p0 := ep0
    refine ⟨_, rfl, _, rfl, A, _, h, row, by rw [ep0']; rfl, a7, Nat.le_trans rl (by decide), fun eb H' s' => ?_, fun z j ew j0 j9 zl H8 s8 => ?_, fun z x ew zl xl H8 s8 => ?_⟩
    · exact qe .row (eo .row (by unfold doRow; rw [eb])) H' (s7.trans s')
    · have a8 := a7.same s8
      have s78 := s7.trans s8
      refine ⟨A, _, h, z, j, rfl, a8, ?_, by omega, fun c H9 s9 => ?_, fun c c2 H9 s9 => ?_, fun c c2 c3 H9 s9 => ?_, fun c c2 c3 H9 st a9 => ?_⟩
      · exact Nat.le_trans zl rl
      · exact qe .name (eo .name (by unfold doRow; rw [ew]; dsimp only; rw [if_pos c])) H9 (s78.trans s9)
      · exact qe .num (eo .num (by unfold doRow; rw [ew]; dsimp only; rw [if_neg (by rw [c]; decide), if_pos c2])) H9 (s78.trans s9)
      · exact qe .full (eo .full (by unfold doRow; rw [ew]; dsimp only; rw [if_neg (by rw [c]; decide), if_neg (fun w => w c2), if_pos c3])) H9 (s78.trans s9)
      · have l1 := aput_len h.nums z j
        have l2 := adel_len h.recs z
        exact ⟨_, putH h z j, rfl, same_own s78 st, a9, f7.put z j, by show (aput h.nums z j).length ≤ _; omega, by show (adel h.recs z).length ≤ _; omega, eh _ (by unfold doRow; rw [ew]; dsimp only; rw [if_neg (by rw [c]; decide), if_neg (fun w => w c2), if_neg (fun w => w c3)])⟩
    · have a8 := a7.same s8
      have s78 := s7.trans s8
      refine ⟨A, _, h, z, x, rfl, a8, ?_, Nat.le_trans xl (Nat.le_trans rl (by decide)), by omega, fun c H9 s9 => ?_, fun c c2 H9 s9 => ?_, fun c t c2 c3 H9 s9 => ?_, fun c t c2 c3 H9 st a9 => ?_⟩
      · exact Nat.le_trans zl rl
      · exact qe .name (eo .name (by unfold doRow; rw [ew]; dsimp only; rw [if_pos c])) H9 (s78.trans s9)
      · exact qe .rcp (eo .rcp (by unfold doRow; rw [ew]; dsimp only; rw [if_neg (by rw [c]; decide), c2])) H9 (s78.trans s9)
      · exact qe .full (eo .full (by unfold doRow; rw [ew]; dsimp only; rw [if_neg (by rw [c]; decide), c2]; dsimp only; rw [if_pos c3])) H9 (s78.trans s9)
      · have l1 := aput_len h.recs z t
        have l2 := adel_len h.nums z
        exact ⟨_, makeH h z t, rfl, same_own s78 st, a9, f7.make z t, by show (adel h.nums z).length ≤ _; omega, by show (aput h.recs z t).length ≤ _; omega, eh _ (by unfold doRow; rw [ew]; dsimp only; rw [if_neg (by rw [c]; decide), c2]; dsimp only; rw [if_neg (fun w => w c3)])⟩
  · rintro σ H7 ⟨v2, h, rfl, s7, a7, f7, n7, r7, e7⟩
    rw [List.length_map, List.drop_length] at e7
    have e8 : openM hl0 rs = .inr h := by rw [e7]; rfl
    refine ⟨_, rfl, ?_⟩
    rw [← ep0]
    exact qh h e8 A H7 own5 s7 f7 fun W o => a7.any f7 o
end
end Aw

namespace Aw
open PySem L2
theorem noblank {s : Str} (h : NameOk s) : 32 ∉ s.cps.toList := fun w => by
  have h : nameM s = true := h
  unfold nameM at h
  have := of_decide_eq_true (List.all_eq_true.mp (Bool.and_eq_true_iff.mp h).2 32 w)
  exact absurd this (by decide +kernel)
end Aw

namespace Aw
open PySem L2
/-! ### k32: rows of all kinds -/
theorem e_bl : ((" " : Str)).cps.toList = [32] := by decide +kernel
/-- a row of three parts -/
theorem rowM_of {row k z x : Str} (e : row.cps.toList = k.cps.toList ++ 32 :: (z.cps.toList ++ 32 :: x.cps.toList)) (hk : 32 ∉ k.cps.toList) (hz : 32 ∉ z.cps.toList) : rowM row = if k = "well" ∧ figM x = true then .well z (numF x.cps.toList) else if k = "work" then .work z x else .bad := by
  obtain ⟨r, hr⟩ : ∃ r : Str, r.cps.toList = z.cps.toList ++ 32 :: x.cps.toList := ⟨⟨(z.cps.toList ++ 32 :: x.cps.toList).toArray⟩, by simp⟩
  have p1 : Txt.partition row " " = (k, (" " : Str), r) := part_bl (by rw [e, hr]) hk
  have p2 : Txt.partition r " " = (z, (" " : Str), x) := part_bl hr hz
  unfold rowM
  rw [p1]
  dsimp only
  rw [p2]
  dsimp only
  rw [if_neg (by decide +kernel)]
theorem rowM_two {row k z : Str} (e : row.cps.toList = k.cps.toList ++ 32 :: z.cps.toList) (hk : 32 ∉ k.cps.toList) (hz : 32 ∉ z.cps.toList) : rowM row = .bad := by
  have p1 : Txt.partition row " " = (k, (" " : Str), z) := part_bl e hk
  unfold rowM
  rw [p1]
  dsimp only
  rw [part_no hz]
  dsimp only
  rw [if_pos rfl]
theorem rowM_one {row : Str} (hr : 32 ∉ row.cps.toList) : rowM row = .bad := by
  unfold rowM
  rw [part_no hr]
  dsimp only
  rw [part_no (by intro w; cases w)]
  dsimp only
  rw [if_pos rfl]
def Rf.lbl : Rf → Str
  | .row => "no row"
  | .name => "no name"
  | .num => "no number"
  | .rcp => "no recipe"
  | .full => "full"
/-- what a good row does -/
inductive Gr where
  | w (z : Str) (i : Int)
  | k (z : Str)
def T0 : T := .join .sum [.num 3, .num 4]
theorem read_T0 : readM " 3 +  4 " = some T0 := by rfl
def Gr.z : Gr → Str
  | .w z _ => z
  | .k z => z
def Gr.do (g : Gr) (h : Hl) : Hl := match g with
  | .w z i => putH h z i
  | .k z => makeH h z T0
def Gr.dic (g : Gr) (m : AL Int) : AL Int := match g with
  | .w z i => aput m z i
  | .k z => adel m z
/-- a good row, and its words -/
structure Good (row : Str) (g : Gr) : Prop where
  nm : NameOk g.z
  yes : ∀ h, roomy h g.z → doRow h row = .inr (g.do h)
  no : ∀ h, ¬ roomy h g.z → doRow h row = .inl .full
  len : row.length ≤ 60
  rg : ∀ z i, g = .w z i → 0 ≤ i ∧ i ≤ 30
  wd : ∀ z i, g = .w z i → ∃ x, Txt.split row " " = [("well" : Str), z, x] ∧ PySem.intText? x = some i ∧ x.length ≤ 640
  wk : ∀ z, g = .k z → ∃ r, Txt.split row " " = ("work" : Str) :: z :: r
theorem good_well {row z x : Str} {i : Int} (e : row.cps.toList = ("well" : Str).cps.toList ++ 32 :: (z.cps.toList ++ 32 :: x.cps.toList)) (hz : NameOk z) (f : figM x = true) (n : numF x.cps.toList = i) (i0 : 0 ≤ i ∧ i ≤ 30) : Good row (.w z i) := by
  have nb := noblank hz
  have nw : 32 ∉ ("well" : Str).cps.toList := by decide +kernel
  have rm := rowM_of e nw nb
  rw [if_pos ⟨rfl, f⟩, n] at rm
  have ok : nameM z = true := hz
  have hx := fig_int f
  have nx : 32 ∉ x.cps.toList := fun w => by
    have h2 := List.all_eq_true.mp (Bool.and_eq_true_iff.mp f).2 32 w
    exact absurd (of_decide_eq_true h2) (by decide +kernel)
  refine ⟨hz, fun h r => ?_, fun h r => ?_, ?_, fun z' i' eq => (by cases eq; exact i0), fun z' i' eq => (by cases eq; exact ⟨x, split_three e nw nb nx, by rw [hx.1, n], Nat.le_trans (of_decide_eq_true (Bool.and_eq_true_iff.mp f).1).2 (by decide)⟩), fun z' eq => by cases eq⟩
  · unfold doRow
    rw [rm]
    dsimp only
    rw [if_neg (by rw [ok]; decide), if_neg (fun w => w i0), if_neg (fun w => w r)]
    rfl
  · unfold doRow
    rw [rm]
    dsimp only
    rw [if_neg (by rw [ok]; decide), if_neg (fun w => w i0)]
    exact if_pos r
  · have h6 : z.length ≤ 6 := by
      unfold nameM at ok
      exact (of_decide_eq_true (Bool.and_eq_true_iff.mp ok).1).2
    have x2 := (of_decide_eq_true (Bool.and_eq_true_iff.mp f).1).2
    unfold Str.length at h6 x2 ⊢
    rw [← Array.length_toList] at h6 x2 ⊢
    have : ("well" : Str).cps.toList.length = 4 := by decide +kernel
    rw [e, List.length_append, List.length_cons, List.length_append, List.length_cons]
    omega
theorem good_work {row z x : Str} (e : row.cps.toList = ("work" : Str).cps.toList ++ 32 :: (z.cps.toList ++ 32 :: x.cps.toList)) (hz : NameOk z) (f : readM x = some T0) (xl : x.length ≤ 20) : Good row (.k z) := by
  have nb := noblank hz
  have nw : 32 ∉ ("work" : Str).cps.toList := by decide +kernel
  have rm := rowM_of e nw nb
  rw [if_neg (fun w => absurd w.1 (by decide +kernel)), if_pos rfl] at rm
  have ok : nameM z = true := hz
  refine ⟨hz, fun h r => ?_, fun h r => ?_, ?_, fun z' i' eq => (by cases eq), fun z' i' eq => (by cases eq), fun z' eq => by cases eq; exact split_two e nw nb⟩
  · unfold doRow
    rw [rm]
    dsimp only
    rw [if_neg (by rw [ok]; decide), f]
    dsimp only
    rw [if_neg (fun w => w r)]
    rfl
  · unfold doRow
    rw [rm]
    dsimp only
    rw [if_neg (by rw [ok]; decide), f]
    exact if_pos r
  · have h6 : z.length ≤ 6 := by
      unfold nameM at ok
      exact (of_decide_eq_true (Bool.and_eq_true_iff.mp ok).1).2
    unfold Str.length at h6 xl ⊢
    rw [← Array.length_toList] at h6 xl ⊢
    have : ("work" : Str).cps.toList.length = 4 := by decide +kernel
    rw [e, List.length_append, List.length_cons, List.length_append, List.length_cons]
    omega
/-- a row that is refused in whatever hall -/
structure Bad (row : Str) (e : Rf) : Prop where
  ne : e ≠ .full
  no : ∀ h, doRow h row = .inl e
  len : row.length ≤ 60
theorem bad_row {row : Str} (h : rowM row = .bad) (l : row.length ≤ 60) : Bad row .row := ⟨fun w => (by cases w), fun hl => by unfold doRow; rw [h], l⟩
theorem bad_name {row z : Str} (hz : nameM z = false) (h : (∃ i, rowM row = .well z i) ∨ ∃ x, rowM row = .work z x) (l : row.length ≤ 60) : Bad row .name := ⟨fun w => (by cases w), fun hl => by
  unfold doRow
  rcases h with ⟨i, h⟩ | ⟨x, h⟩ <;> rw [h] <;> dsimp only <;> rw [if_pos hz], l⟩
theorem bad_num {row z : Str} {i : Int} (hz : nameM z = true) (hi : ¬ (0 ≤ i ∧ i ≤ 30)) (h : rowM row = .well z i) (l : row.length ≤ 60) : Bad row .num := ⟨fun w => (by cases w), fun hl => by
  unfold doRow
  rw [h]
  dsimp only
  rw [if_neg (by rw [hz]; decide), if_pos hi], l⟩
theorem bad_rcp {row z x : Str} (hz : nameM z = true) (hx : readM x = none) (h : rowM row = .work z x) (l : row.length ≤ 60) : Bad row .rcp := ⟨fun w => (by cases w), fun hl => by
  unfold doRow
  rw [h]
  dsimp only
  rw [if_neg (by rw [hz]; decide), hx], l⟩
def rows24 (z : Str) : List (Str × Str) := [("well " ++ z ++ " 7", "done"), ("Well " ++ z ++ " 7", "no row"), ("well " ++ z, "no row"), ("well " ++ z ++ " ", "no row"), ("well " ++ z ++ " 007", "no row"), ("well", "no row"),
  ("well " ++ z ++ " -1", "no row"), ("well " ++ z ++ "  7", "no row"), ("", "no row"), ("well " ++ z ++ " 31", "no number"), ("well A9 99", "no name"), ("well A9 x", "no row"), ("well " ++ z ++ " 05", "done"), ("work " ++ z ++ " ", "no recipe"), ("work " ++ z, "no row"),
  ("work  a", "no name"), ("work b1 a +", "no name"), ("work " ++ z ++ " a +", "no recipe"), (" well " ++ z ++ " 7", "no row"), ("work " ++ z ++ "  3 +  4 ", "done"), ("put a 3", "no row"), ("well " ++ z ++ " 7 ", "no row"), ("well  7", "no name"), ("wells " ++ z ++ " 7", "no row")]
/-- k, a blank, z, a blank, x -/
theorem tri {kb k z bx x : Str} (h1 : kb.cps.toList = k.cps.toList ++ [32]) (h2 : bx.cps.toList = 32 :: x.cps.toList) : (kb ++ z ++ bx).cps.toList = k.cps.toList ++ 32 :: (z.cps.toList ++ 32 :: x.cps.toList) := by
  rw [cps_app, cps_app, h1, h2]
  simp
theorem len60 {a z b : Str} (hz : NameOk z) (h : a.length + b.length ≤ 40) : (a ++ z ++ b).length ≤ 60 := by
  have h : a.length + b.length ≤ 40 := h
  have ok : nameM z = true := hz
  have h6 : z.length ≤ 6 := by
    unfold nameM at ok
    exact (of_decide_eq_true (Bool.and_eq_true_iff.mp ok).1).2
  rw [len_app, len_app]
  omega
theorem row_mean {z : Str} (hz : NameOk z) : ∀ p ∈ rows24 z, (∃ e, p.2 = Rf.lbl e ∧ Bad p.1 e) ∨ (p.2 = "done" ∧ ∃ g, g.z = z ∧ Good p.1 g) := by
  have ok : nameM z = true := hz
  have nb := noblank hz
  have bad3 : ∀ (kb k bx x : Str), kb.cps.toList = k.cps.toList ++ [32] → bx.cps.toList = 32 :: x.cps.toList → 32 ∉ k.cps.toList → ¬ (k = "well" ∧ figM x = true) → ¬ k = "work" → kb.length + bx.length ≤ 40 → Bad (kb ++ z ++ bx) .row := fun kb k bx x h1 h2 hk n1 n2 l => by
    refine bad_row ?_ (len60 hz l)
    rw [rowM_of (tri h1 h2) hk nb, if_neg n1, if_neg n2]
  intro p hp
  unfold rows24 at hp
  simp only [List.mem_cons, List.mem_nil_iff, or_false] at hp
  rcases hp with h | h | h | h | h | h | h | h | h | h | h | h | h | h | h | h | h | h | h | h | h | h | h | h <;> subst h
  · exact .inr ⟨rfl, _, rfl, good_well (tri (k := "well") (x := "7") (by decide +kernel) (by decide +kernel)) hz (by decide +kernel) (i := 7) (by decide +kernel) (by decide)⟩
  · exact .inl ⟨.row, rfl, bad3 "Well " "Well" " 7" "7" (by decide +kernel) (by decide +kernel) (by decide +kernel) (fun w => absurd w.1 (by decide +kernel)) (by decide +kernel) (by decide +kernel)⟩
  · refine .inl ⟨.row, rfl, bad_row (rowM_two (k := "well") (z := z) ?_ (by decide +kernel) nb) ?_⟩
    · rw [cps_app, show ("well " : Str).cps.toList = ("well" : Str).cps.toList ++ [32] by decide +kernel]; simp
    · have := len60 (a := "well ") (b := "") hz (by decide +kernel)
      rw [len_app, len_app] at this
      show ("well " ++ z).length ≤ 60
      rw [len_app]; exact Nat.le_trans (Nat.le_add_right _ _) this
  · exact .inl ⟨.row, rfl, bad3 "well " "well" " " "" (by decide +kernel) (by decide +kernel) (by decide +kernel) (fun w => absurd w.2 (by decide +kernel)) (by decide +kernel) (by decide +kernel)⟩
  · exact .inl ⟨.row, rfl, bad3 "well " "well" " 007" "007" (by decide +kernel) (by decide +kernel) (by decide +kernel) (fun w => absurd w.2 (by decide +kernel)) (by decide +kernel) (by decide +kernel)⟩
  · exact .inl ⟨.row, rfl, bad_row (rowM_one (by decide +kernel)) (by decide +kernel)⟩
  · exact .inl ⟨.row, rfl, bad3 "well " "well" " -1" "-1" (by decide +kernel) (by decide +kernel) (by decide +kernel) (fun w => absurd w.2 (by decide +kernel)) (by decide +kernel) (by decide +kernel)⟩
  · exact .inl ⟨.row, rfl, bad3 "well " "well" "  7" " 7" (by decide +kernel) (by decide +kernel) (by decide +kernel) (fun w => absurd w.2 (by decide +kernel)) (by decide +kernel) (by decide +kernel)⟩
  · exact .inl ⟨.row, rfl, bad_row (rowM_one (by decide +kernel)) (by decide +kernel)⟩
  · refine .inl ⟨.num, rfl, bad_num (z := z) (i := 31) ok (by decide) ?_ (len60 hz (by decide +kernel))⟩
    rw [rowM_of (tri (k := "well") (x := "31") (by decide +kernel) (by decide +kernel)) (by decide +kernel) nb, if_pos ⟨rfl, by decide +kernel⟩]
    rfl
  · refine .inl ⟨.name, rfl, bad_name (z := "A9") (by decide +kernel) (.inl ⟨99, ?_⟩) (by decide +kernel)⟩
    rw [rowM_of (k := "well") (z := "A9") (x := "99") (by decide +kernel) (by decide +kernel) (by decide +kernel), if_pos ⟨rfl, by decide +kernel⟩]
    rfl
  · refine .inl ⟨.row, rfl, bad_row ?_ (by decide +kernel)⟩
    rw [rowM_of (k := "well") (z := "A9") (x := "x") (by decide +kernel) (by decide +kernel) (by decide +kernel), if_neg (fun w => absurd w.2 (by decide +kernel)), if_neg (by decide +kernel)]
  · exact .inr ⟨rfl, _, rfl, good_well (tri (k := "well") (x := "05") (by decide +kernel) (by decide +kernel)) hz (by decide +kernel) (i := 5) (by decide +kernel) (by decide)⟩
  · refine .inl ⟨.rcp, rfl, bad_rcp (z := z) (x := "") ok (by decide +kernel) ?_ (len60 hz (by decide +kernel))⟩
    rw [rowM_of (tri (k := "work") (x := "") (by decide +kernel) (by decide +kernel)) (by decide +kernel) nb, if_neg (fun w => absurd w.1 (by decide +kernel)), if_pos rfl]
  · refine .inl ⟨.row, rfl, bad_row (rowM_two (k := "work") (z := z) ?_ (by decide +kernel) nb) ?_⟩
    · rw [cps_app, show ("work " : Str).cps.toList = ("work" : Str).cps.toList ++ [32] by decide +kernel]; simp
    · have := len60 (a := "work ") (b := "") hz (by decide +kernel)
      rw [len_app, len_app] at this
      show ("work " ++ z).length ≤ 60
      rw [len_app]; exact Nat.le_trans (Nat.le_add_right _ _) this
  · refine .inl ⟨.name, rfl, bad_name (z := "") (by decide +kernel) (.inr ⟨"a", ?_⟩) (by decide +kernel)⟩
    rw [rowM_of (k := "work") (z := "") (x := "a") (by decide +kernel) (by decide +kernel) (by decide +kernel), if_neg (fun w => absurd w.1 (by decide +kernel)), if_pos rfl]
  · refine .inl ⟨.name, rfl, bad_name (z := "b1") (by decide +kernel) (.inr ⟨"a +", ?_⟩) (by decide +kernel)⟩
    rw [rowM_of (k := "work") (z := "b1") (x := "a +") (by decide +kernel) (by decide +kernel) (by decide +kernel), if_neg (fun w => absurd w.1 (by decide +kernel)), if_pos rfl]
  · refine .inl ⟨.rcp, rfl, bad_rcp (z := z) (x := "a +") ok (by decide +kernel) ?_ (len60 hz (by decide +kernel))⟩
    rw [rowM_of (tri (k := "work") (x := "a +") (by decide +kernel) (by decide +kernel)) (by decide +kernel) nb, if_neg (fun w => absurd w.1 (by decide +kernel)), if_pos rfl]
  · refine .inl ⟨.row, rfl, bad_row ?_ (len60 hz (by decide +kernel))⟩
    rw [rowM_of (k := "") (z := "well") (x := z ++ " 7") (by
      rw [cps_app, cps_app, cps_app, show (" well " : Str).cps.toList = 32 :: (("well" : Str).cps.toList ++ [32]) by decide +kernel]
      show 32 :: _ = [] ++ 32 :: _
      simp) (by decide +kernel) (by decide +kernel), if_neg (fun w => absurd w.1 (by decide +kernel)), if_neg (by decide +kernel)]
  · exact .inr ⟨rfl, _, rfl, good_work (tri (k := "work") (x := " 3 +  4 ") (by decide +kernel) (by decide +kernel)) hz read_T0 (by decide +kernel)⟩
  · refine .inl ⟨.row, rfl, bad_row ?_ (by decide +kernel)⟩
    rw [rowM_of (k := "put") (z := "a") (x := "3") (by decide +kernel) (by decide +kernel) (by decide +kernel), if_neg (fun w => absurd w.1 (by decide +kernel)), if_neg (by decide +kernel)]
  · exact .inl ⟨.row, rfl, bad3 "well " "well" " 7 " "7 " (by decide +kernel) (by decide +kernel) (by decide +kernel) (fun w => absurd w.2 (by decide +kernel)) (by decide +kernel) (by decide +kernel)⟩
  · refine .inl ⟨.name, rfl, bad_name (z := "") (by decide +kernel) (.inl ⟨7, ?_⟩) (by decide +kernel)⟩
    rw [rowM_of (k := "well") (z := "") (x := "7") (by decide +kernel) (by decide +kernel) (by decide +kernel), if_pos ⟨rfl, by decide +kernel⟩]
    rfl
  · exact .inl ⟨.row, rfl, bad3 "wells " "wells" " 7" "7" (by decide +kernel) (by decide +kernel) (by decide +kernel) (fun w => absurd w.1 (by decide +kernel)) (by decide +kernel) (by decide +kernel)⟩
end Aw

namespace Aw
open PySem L2
/-! ### k32: what rows come to -/
theorem lbl_done (e : Rf) : ¬ e.lbl = "done" := by cases e <;> decide +kernel
theorem lbl_inj_full {e : Rf} (h : e ≠ .full) : ¬ e.lbl = "full" := by cases e <;> first | exact absurd rfl h | decide +kernel
structure HB (U : List Str) (h : Hl) : Prop where
  nu : ∀ y ∈ akeys h.nums, y ∈ U
  nn : (akeys h.nums).Nodup
  ru : ∀ y ∈ akeys h.recs, y ∈ U
  rn : (akeys h.recs).Nodup
  dj : ∀ y ∈ akeys h.nums, y ∉ akeys h.recs
  tk : ∀ p ∈ h.recs, p.2 = T0
theorem HB.zero (U : List Str) : HB U hl0 := ⟨fun y hy => (by cases hy), List.nodup_nil, fun y hy => (by cases hy), List.nodup_nil, fun y hy => (by cases hy), fun p hp => by cases hp⟩
theorem HB.room {U : List Str} (l : U.length ≤ 10) {h : Hl} (v : HB U h) {z : Str} (hz : z ∈ U) : roomy h z := by
  by_cases c1 : z ∈ akeys h.nums
  · exact .inl c1
  by_cases c2 : z ∈ akeys h.recs
  · exact .inr (.inl c2)
  refine .inr (.inr ?_)
  have nd : (z :: (akeys h.nums ++ akeys h.recs)).Nodup := by
    refine List.nodup_cons.mpr ⟨fun w => (List.mem_append.mp w).elim c1 c2, List.nodup_append.mpr ⟨v.nn, v.rn, fun a ha b hb e => v.dj a ha (by rw [e]; exact hb)⟩⟩
  have h1 := nodup_sub nd (u := U) fun y hy => by
    rcases List.mem_cons.mp hy with w | w
    · rw [w]; exact hz
    · exact (List.mem_append.mp w).elim (v.nu y) (v.ru y)
  rw [List.length_cons, List.length_append] at h1
  unfold akeys at h1
  rw [List.length_map, List.length_map] at h1
  omega
theorem HB.do {U : List Str} {h : Hl} (v : HB U h) {g : Gr} (hz : g.z ∈ U) : HB U (g.do h) := by
  cases g with
  | w z i =>
    refine ⟨fun y hy => ?_, anodup_put v.nn _ _, fun y hy => v.ru y (mem_akeys_del.mp hy).1, anodup_del v.rn z, fun y hy w => ?_, fun p hp => v.tk p (List.mem_filter.mp hp).1⟩
    · rcases mem_akeys_put.mp hy with w | w
      · exact v.nu y w
      · rw [w]; exact hz
    · obtain ⟨w1, w2⟩ := mem_akeys_del.mp w
      rcases mem_akeys_put.mp hy with q | q
      · exact v.dj y q w1
      · exact w2 q
  | k z =>
    refine ⟨fun y hy => v.nu y (mem_akeys_del.mp hy).1, anodup_del v.nn z, fun y hy => ?_, anodup_put v.rn _ _, fun y hy w => ?_, fun p hp => ?_⟩
    · rcases mem_akeys_put.mp hy with w | w
      · exact v.ru y w
      · rw [w]; exact hz
    · obtain ⟨w1, w2⟩ := mem_akeys_del.mp hy
      rcases mem_akeys_put.mp w with q | q
      · exact v.dj y w1 q
      · exact w2 q
    · have e := mem_alk (anodup_put v.rn z T0) hp
      rw [alk_put] at e
      split at e
      · rw [← Option.some.inj e]
      · exact v.tk _ (alk_mem e)
def Is (h : Hl) (s : Str) : Prop := s ∈ akeys h.nums ∨ s ∈ akeys h.recs
theorem is_do {g : Gr} {h : Hl} {s : Str} : Is (g.do h) s ↔ Is h s ∨ s = g.z := by
  unfold Is
  cases g with
  | w z i =>
    show s ∈ akeys (aput h.nums z i) ∨ s ∈ akeys (adel h.recs z) ↔ _
    rw [mem_akeys_put, mem_akeys_del]
    show _ ↔ _ ∨ s = z
    by_cases c : s = z <;> simp [c]
  | k z =>
    show s ∈ akeys (adel h.nums z) ∨ s ∈ akeys (aput h.recs z T0) ↔ _
    rw [mem_akeys_put, mem_akeys_del]
    show _ ↔ _ ∨ s = z
    by_cases c : s = z <;> simp [c]
def foldG (gs : List Gr) (h : Hl) : Hl := gs.foldl (fun h g => g.do h) h
theorem fold_is : ∀ (gs : List Gr) {h : Hl} {s : Str}, Is (foldG gs h) s ↔ Is h s ∨ s ∈ gs.map Gr.z
  | [], h, s => by simp [foldG]
  | g :: r, h, s => by
    show Is (foldG r (g.do h)) s ↔ _
    rw [fold_is r, is_do, List.map_cons, List.mem_cons, or_assoc]
theorem fold_nums : ∀ (gs : List Gr) {h : Hl}, (foldG gs h).nums = gs.foldl (fun m g => g.dic m) h.nums
  | [], h => rfl
  | g :: r, h => by
    show (foldG r (g.do h)).nums = r.foldl (fun m g => g.dic m) (g.dic h.nums)
    rw [fold_nums r]
    cases g <;> rfl
theorem open_cons (h : Hl) (r : Str) (rs : List Str) : openM h (r :: rs) = match doRow h r with
    | .inl e => .inl e
    | .inr h' => openM h' rs := by
  (rw [openM]) <;> (cases doRow h r <;> rfl)
theorem open_app : ∀ (a b : List Str) (h : Hl), openM h (a ++ b) = match openM h a with
    | .inl e => .inl e
    | .inr h' => openM h' b
  | [], b, h => rfl
  | r :: a, b, h => by
    rw [List.cons_append, open_cons, open_cons]
    cases doRow h r with
    | inl e => rfl
    | inr h' => exact open_app a b h'
abbrev rowsG (ps : List (Str × Gr)) : List Str := ps.map (·.1)
theorem open_good {U : List Str} (l : U.length ≤ 10) : ∀ (ps : List (Str × Gr)), (∀ p ∈ ps, Good p.1 p.2 ∧ p.2.z ∈ U) → ∀ {h : Hl}, HB U h → openM h (rowsG ps) = .inr (foldG (ps.map (·.2)) h) ∧ HB U (foldG (ps.map (·.2)) h)
  | [], _, h, b => ⟨rfl, b⟩
  | p :: r, hp, h, b => by
    obtain ⟨g, hz⟩ := hp p List.mem_cons_self
    have b1 := b.do hz
    obtain ⟨h1, h2⟩ := open_good l r (fun x hx => hp x (List.mem_cons_of_mem _ hx)) b1
    refine ⟨?_, h2⟩
    show openM h (p.1 :: rowsG r) = _
    unfold openM
    rw [g.yes h (b.room l hz)]
    exact h1
theorem HB.count {U : List Str} {h : Hl} (v : HB U h) {L : List Str} (nd : L.Nodup) (m : ∀ s, Is h s ↔ s ∈ L) : h.nums.length + h.recs.length = L.length := by
  have n2 : (akeys h.nums ++ akeys h.recs).Nodup := List.nodup_append.mpr ⟨v.nn, v.rn, fun a ha b hb e => v.dj a ha (by rw [e]; exact hb)⟩
  have h1 := nodup_sub n2 (u := L) fun y hy => (m y).mp (List.mem_append.mp hy)
  have h2 := nodup_sub nd (u := akeys h.nums ++ akeys h.recs) fun y hy => List.mem_append.mpr ((m y).mpr hy)
  rw [List.length_append] at h1 h2
  unfold akeys at h1 h2
  rw [List.length_map, List.length_map] at h1 h2
  omega
noncomputable def kindR (rows : List Str) : Str := match openM hl0 rows with
  | .inl e => e.lbl
  | .inr _ => "done"
theorem kind_inl {rows : List Str} {e : Rf} (h : openM hl0 rows = .inl e) : kindR rows = e.lbl := by unfold kindR; rw [h]
theorem kind_inr {rows : List Str} {h : Hl} (e : openM hl0 rows = .inr h) : kindR rows = "done" := by unfold kindR; rw [e]
theorem open_cons_bad {row : Str} {e : Rf} (b : Bad row e) (h : Hl) (r : List Str) : openM h (row :: r) = .inl e := by
  unfold openM
  rw [b.no h]
def due32 (d : Str) (many : Nat) (new : Bool) : Str := if d = "done" ∧ many = 10 ∧ new = true then "full" else d
theorem kind_all {nms : List Str} (l12 : nms.length = 12) (nd : nms.Nodup) (ok : ∀ s ∈ nms, NameOk s) {many : Nat} (m10 : many ≤ 10) {ps0 : List (Str × Gr)} (hz0 : ps0.map (fun p => p.2.z) = nms.take many) (hg : ∀ p ∈ ps0, Good p.1 p.2) {new : Bool} {name n0 : Str} (e0 : nms[0]? = some n0) (en : nms[if new = true then 11 else 0]? = some name)
    {p q : Str × Str} (hp : p ∈ rows24 name) (hq : q ∈ rows24 n0) {pa pb : List (Str × Gr)} (hab : pa ++ pb = ps0) (hb : pb = [] ∨ ¬ due32 p.2 many new = "full") :
    kindR (rowsG pa ++ p.1 :: rowsG pb) = due32 p.2 many new ∧ kindR ((rowsG pa ++ p.1 :: rowsG pb) ++ [q.1]) = (if due32 p.2 many new = "done" then q.2 else due32 p.2 many new) ∧ kindR (q.1 :: (rowsG pa ++ p.1 :: rowsG pb)) = (if q.2 = "done" then due32 p.2 many new else q.2) ∧
    (due32 p.2 many new = "done" → ∃ (U : List Str) (gs : List (Str × Gr)), rowsG pa ++ p.1 :: rowsG pb = rowsG gs ∧ (∀ g ∈ gs, Good g.1 g.2) ∧ openM hl0 (rowsG gs) = .inr (foldG (gs.map (·.2)) hl0) ∧ HB U (foldG (gs.map (·.2)) hl0) ∧ (foldG (gs.map (·.2)) hl0).nums.length + (foldG (gs.map (·.2)) hl0).recs.length = many + (if new = true ∨ many = 0 then 1 else 0)) := by
  have n0m : n0 ∈ nms := List.mem_of_getElem? e0
  have nmm : name ∈ nms := List.mem_of_getElem? en
  have okn := ok _ nmm
  have ok0 := ok _ n0m
  have zin : ∀ x ∈ ps0, x.2.z ∈ nms.take many := fun x hx => by rw [← hz0]; exact List.mem_map_of_mem (f := fun p : Str × Gr => p.2.z) hx
  -- a list of ten names
  have go : ∀ (U : List Str), U.length ≤ 10 → (∀ s ∈ nms.take many, s ∈ U) → n0 ∈ U → ∀ {h : Hl}, HB U h → ∀ (ps : List (Str × Gr)), (∀ x ∈ ps, x ∈ ps0) → openM h (rowsG ps) = .inr (foldG (ps.map (·.2)) h) ∧ HB U (foldG (ps.map (·.2)) h) := fun U lU sU _ h b ps hs =>
    open_good lU ps (fun x hx => ⟨hg x (hs x hx), sU _ (zin x (hs x hx))⟩) b
  have ina : ∀ x ∈ pa, x ∈ ps0 := fun x hx => by rw [← hab]; exact List.mem_append_left _ hx
  have inb : ∀ x ∈ pb, x ∈ ps0 := fun x hx => by rw [← hab]; exact List.mem_append_right _ hx
  have t10 : (nms.take 10).length ≤ 10 := by rw [List.length_take]; omega
  have s10 : ∀ s ∈ nms.take many, s ∈ nms.take 10 := fun s hs => List.take_subset_take_left _ m10 hs
  have z10 : n0 ∈ nms.take 10 := List.mem_of_getElem? (i := 0) (by rw [List.getElem?_take_of_lt (by decide)]; exact e0)
  -- the second row ahead of all
  have ahead : ∀ (U : List Str), U.length ≤ 10 → n0 ∈ U → ∀ (rows : List Str) (d : Str), (∀ h, HB U h → match openM h rows with
      | .inl e => e.lbl = d
      | .inr _ => d = "done") → kindR (q.1 :: rows) = (if q.2 = "done" then d else q.2) := fun U lU zU rows d hh => by
    rcases row_mean ok0 q hq with ⟨e, ed, b⟩ | ⟨ed, g, gz, b⟩
    · rw [kind_inl (open_cons_bad b hl0 rows), ed, if_neg (lbl_done e)]
    · have hb1 := (HB.zero U).do (g := g) (by rw [gz]; exact zU)
      have h1 := hh _ hb1
      have e1 : openM hl0 (q.1 :: rows) = openM (g.do hl0) rows := by
        show (match doRow hl0 q.1 with | .inl e => _ | .inr h' => openM h' rows) = _
        rw [b.yes hl0 ((HB.zero U).room lU (by rw [gz]; exact zU))]
      rw [if_pos ed]
      unfold kindR
      rw [e1]
      revert h1
      cases openM (g.do hl0) rows with
      | inl e => exact fun h => h
      | inr h' => exact fun h => h.symm
  rcases row_mean okn p hp with ⟨e, ed, b⟩ | ⟨ed, g, gz, b⟩
  · -- refused anyhow
    have dd : due32 p.2 many new = e.lbl := by unfold due32; rw [if_neg (fun w => lbl_done e (by rw [← ed]; exact w.1)), ed]
    rw [dd]
    have main : ∀ (h : Hl), HB (nms.take 10) h → ∀ r : List Str, openM h (rowsG pa ++ p.1 :: r) = .inl e := fun h hb r => by
      rw [open_app, (go _ t10 s10 z10 hb pa ina).1]
      exact open_cons_bad b _ _
    refine ⟨kind_inl (main hl0 (HB.zero _) _), ?_, ahead _ t10 z10 _ _ fun h hb => by rw [main h hb], fun w => absurd w (lbl_done e)⟩
    rw [if_neg (lbl_done e), List.append_assoc]
    exact kind_inl (main hl0 (HB.zero _) _)
  by_cases cf : many = 10 ∧ new = true
  · -- no room
    have dd : due32 p.2 many new = "full" := by unfold due32; rw [if_pos ⟨ed, cf⟩]
    rw [dd] at hb ⊢
    obtain rfl : pb = [] := hb.resolve_right fun w => w rfl
    rw [List.append_nil] at hab
    subst hab
    obtain ⟨m, nw⟩ := cf
    subst m
    rw [if_pos nw] at en
    have nin : name ∉ nms.take 10 := fun w => by
      obtain ⟨j, hj⟩ := List.mem_iff_getElem?.mp w
      have jl : j < 10 := by have := (List.getElem?_eq_some_iff.mp hj).1; rw [List.length_take] at this; omega
      rw [List.getElem?_take_of_lt jl] at hj
      have := (List.getElem?_inj (by omega) nd).mp (hj.trans en.symm)
      omega
    have main : ∀ (h : Hl), HB (nms.take 10) h → ∀ r : List Str, openM h (rowsG pa ++ p.1 :: r) = .inl .full := fun h hb r => by
      obtain ⟨h1, h2⟩ := go _ t10 s10 z10 hb pa ina
      rw [open_app, h1]
      show openM _ (p.1 :: r) = _
      have nr : ¬ roomy (foldG (pa.map (·.2)) h) g.z := fun w => by
        rw [gz] at w
        rcases w with w | w | w
        · exact nin (h2.nu _ w)
        · exact nin (h2.ru _ w)
        · have cnt := h2.count (L := nms.take 10) (nd.sublist (List.take_sublist _ _)) fun s => by
            rw [fold_is, List.map_map]
            have : (pa.map (Gr.z ∘ fun x => x.2)) = nms.take 10 := hz0
            rw [this]
            exact ⟨fun w => w.elim (fun w => w.elim (hb.nu s) (hb.ru s)) id, .inr⟩
          rw [cnt, List.length_take] at w
          omega
      unfold openM
      rw [b.no _ nr]
    refine ⟨kind_inl (main hl0 (HB.zero _) _), ?_, ahead _ t10 z10 _ _ fun h hb => by rw [main h hb]; rfl, fun w => absurd w (by decide +kernel)⟩
    rw [if_neg (by decide +kernel), List.append_assoc]
    exact kind_inl (main hl0 (HB.zero _) _)
  -- all is done
  have dd : due32 p.2 many new = "done" := by unfold due32; rw [if_neg (fun w => cf w.2), ed]
  rw [dd]
  obtain ⟨U, lU, sU, zU, nU⟩ : ∃ U : List Str, U.length ≤ 10 ∧ (∀ s ∈ nms.take many, s ∈ U) ∧ n0 ∈ U ∧ name ∈ U := by
    cases new with
    | false =>
      rw [if_neg (by decide), e0] at en
      refine ⟨_, t10, s10, z10, ?_⟩
      rw [← Option.some.inj en]
      exact z10
    | true =>
      have m9 : many ≤ 9 := by
        have : ¬ many = 10 := fun w => cf ⟨w, rfl⟩
        omega
      refine ⟨nms.take 9 ++ [name], by rw [List.length_append, List.length_take]; show _ + 1 ≤ 10; omega, fun s hs => List.mem_append_left _ (List.take_subset_take_left _ m9 hs), List.mem_append_left _ (List.mem_of_getElem? (i := 0) (by rw [List.getElem?_take_of_lt (by decide)]; exact e0)), List.mem_append_right _ List.mem_cons_self⟩
  obtain ⟨gs, hgs⟩ : ∃ gs, gs = pa ++ (p.1, g) :: pb := ⟨_, rfl⟩
  have er : rowsG pa ++ p.1 :: rowsG pb = rowsG gs := by rw [hgs]; unfold rowsG; rw [List.map_append, List.map_cons]
  have gok : ∀ x ∈ gs, Good x.1 x.2 ∧ x.2.z ∈ U := fun x hx => by
    rw [hgs] at hx
    rcases List.mem_append.mp hx with w | w
    · exact ⟨hg x (ina x w), sU _ (zin x (ina x w))⟩
    · rcases List.mem_cons.mp w with w | w
      · rw [w]; exact ⟨b, by show g.z ∈ U; rw [gz]; exact nU⟩
      · exact ⟨hg x (inb x w), sU _ (zin x (inb x w))⟩
  rw [er]
  have main : ∀ {h : Hl}, HB U h → openM h (rowsG gs) = .inr (foldG (gs.map (·.2)) h) ∧ HB U (foldG (gs.map (·.2)) h) := fun {h} hb => open_good lU gs gok hb
  obtain ⟨o1, o2⟩ := main (HB.zero U)
  refine ⟨kind_inr o1, ?_, ahead U lU zU _ _ fun h hb => by rw [(main hb).1], fun _ => ⟨U, gs, rfl, fun x hx => (gok x hx).1, o1, o2, ?_⟩⟩
  · rw [if_pos rfl]
    have oa : openM hl0 (rowsG gs ++ [q.1]) = openM (foldG (gs.map (·.2)) hl0) [q.1] := by rw [open_app, o1]
    rcases row_mean ok0 q hq with ⟨e2, ed2, b2⟩ | ⟨ed2, g2, gz2, b2⟩
    · rw [kind_inl (oa.trans (open_cons_bad b2 _ _)), ed2]
    · rw [ed2]
      refine kind_inr (h := g2.do (foldG (gs.map (·.2)) hl0)) (oa.trans ?_)
      unfold openM
      rw [b2.yes _ (o2.room lU (by rw [gz2]; exact zU))]
      rfl
  · have isg : ∀ s, Is (foldG (gs.map (·.2)) hl0) s ↔ s ∈ nms.take many ∨ s = name := fun s => by
      rw [fold_is, List.map_map]
      have e1 : gs.map (Gr.z ∘ fun x => x.2) = pa.map (fun x => x.2.z) ++ name :: pb.map (fun x => x.2.z) := by rw [hgs, List.map_append, List.map_cons]; show _ ++ g.z :: _ = _; rw [gz]; rfl
      have e2 : pa.map (fun x => x.2.z) ++ pb.map (fun x => x.2.z) = nms.take many := by rw [← List.map_append, hab]; exact hz0
      rw [e1, ← e2, List.mem_append, List.mem_append, List.mem_cons]
      have n0' : ¬ Is hl0 s := fun w => w.elim (fun w => by cases w) fun w => by cases w
      constructor
      · rintro (w | w | w | w)
        · exact absurd w n0'
        · exact .inl (.inl w)
        · exact .inr w
        · exact .inl (.inr w)
      · rintro ((w | w) | w)
        · exact .inr (.inl w)
        · exact .inr (.inr (.inr w))
        · exact .inr (.inr (.inl w))
    have lt : (nms.take many).length = many := by rw [List.length_take]; omega
    have ndt : (nms.take many).Nodup := nd.sublist (List.take_sublist _ _)
    by_cases c : name ∈ nms.take many
    · have hn : ¬ (new = true ∨ many = 0) := by
        rintro (w | w)
        · rw [if_pos w] at en
          obtain ⟨j, hj⟩ := List.mem_iff_getElem?.mp c
          have jl : j < many := by have := (List.getElem?_eq_some_iff.mp hj).1; omega
          rw [List.getElem?_take_of_lt jl] at hj
          have := (List.getElem?_inj (by omega) nd).mp (hj.trans en.symm)
          omega
        · rw [w] at c; cases c
      rw [o2.count ndt fun s => by rw [isg]; exact ⟨fun w => w.elim id fun e => by rw [e]; exact c, .inl⟩, lt, if_neg hn]
      exact (Nat.add_zero _).symm
    · have hn : new = true ∨ many = 0 := by
        by_cases w : new = true
        · exact .inl w
        · right
          rw [if_neg w] at en
          cases many with
          | zero => rfl
          | succ k => exact absurd (List.mem_of_getElem? (i := 0) (by rw [List.getElem?_take_of_lt (by omega)]; exact en)) c
      rw [o2.count (L := name :: nms.take many) (List.nodup_cons.mpr ⟨c, ndt⟩) fun s => by rw [isg, List.mem_cons, or_comm], List.length_cons, lt, if_pos hn]
end Aw

namespace Aw
open PySem L2
/-! ### k32: the refusal of rows -/
structure Ex32 (K : PySem.W.Frag) (NR NN NB N NF : Addr) : Prop where
  rr : PySem.W.exmOne K (.ref NR) (.ref NR) = some true
  nr : PySem.W.exmOne K (.ref NN) (.ref NR) = some false
  nn : PySem.W.exmOne K (.ref NN) (.ref NN) = some true
  br : PySem.W.exmOne K (.ref NB) (.ref NR) = some false
  bn : PySem.W.exmOne K (.ref NB) (.ref NN) = some false
  bb : PySem.W.exmOne K (.ref NB) (.ref NB) = some true
  cr : PySem.W.exmOne K (.ref N) (.ref NR) = some false
  cn : PySem.W.exmOne K (.ref N) (.ref NN) = some false
  cb : PySem.W.exmOne K (.ref N) (.ref NB) = some false
  cc : PySem.W.exmOne K (.ref N) (.ref N) = some true
  fr : PySem.W.exmOne K (.ref NF) (.ref NR) = some false
  fn : PySem.W.exmOne K (.ref NF) (.ref NN) = some false
  fb : PySem.W.exmOne K (.ref NF) (.ref NB) = some false
  fc : PySem.W.exmOne K (.ref NF) (.ref N) = some false
  ff : PySem.W.exmOne K (.ref NF) (.ref NF) = some true
  kn : PySem.W.kitOne K (.ref NR) (.ref NN) = some false
  kb : PySem.W.kitOne K (.ref NR) (.ref NB) = some false
  kc : PySem.W.kitOne K (.ref NR) (.ref N) = some false
structure Tx32 (K : PySem.W.Frag) (mg : Str → Option Value) (NR NN NB N NF HE : Addr) : Prop where
  gr : mg "NoRow" = some (.ref NR)
  gn : mg "NoName" = some (.ref NN)
  gb : mg "NoNumber" = some (.ref NB)
  gc : mg "NoRecipe" = some (.ref N)
  gf : mg "Full" = some (.ref NF)
  gh : mg "HallError" = some (.ref HE)
  zv : mg "ValueError" = none
  isi : mg "isinstance" = none
  int : mg "int" = none
  c : ExcC K NR
  kh : PySem.W.kitOne K (.ref NR) (.ref HE) = some true
  kv : PySem.W.kitOne K (.ref NR) (.type "ValueError") = some true
def spKind32 (C : HC) : Sp := fun vs H Q _ => ∃ (l : Addr) (rs : List Str), vs = [.ref l] ∧ H l = some (.lst (rs.map V.str)) ∧ rs.length ≤ 500 ∧ (∀ r ∈ rs, r.length ≤ 1000) ∧ ∀ H', Same H H' → Q (.str (kindR rs)) H'
section
variable {P : Program} {w : World} {K : PySem.W.Frag} {mg : Str → Option Value} {base : Heap} {f : Addr} {fd : FuncData} {C : HC} {NR NN NB N NF HE : Addr}
set_option maxHeartbeats 0 in
theorem ok_kind32 {fop : Addr} {dop : FuncData} (F : Fun K "_law_kind" "_law_kind" s_law_kind f fd) (X : Ex32 K NR NN NB N NF) (T : Tx32 K mg NR NN NB N NF HE) (Op : DfQ P w K mg base (L2.CX P w) 30 "opened" ["rows"] (spOpened C NN NB N NF NR K) fop dop) :
    FnOk P w K mg base CX0 31 f fd ["_law_rows"] (spKind32 C) := by
  refine F.ok sc_law_kind (fun vs H Q E h => ?_) (fun cdv A00 outer s H vs Q E hr h => ?_)
  · obtain ⟨l, rs, rfl, _⟩ := h
    rfl
  obtain ⟨l, rs, rfl, el, h500, hl, q⟩ := h
  have nd := sc_law_kind.nd
  refine ⟨_, pss_cons (ps_try_cl rfl rfl takes0 (fun W pn xe tk _ => pss_one (ps_expr (pe_callS Op.ok hr rfl Op.m Op.k Op.b (fun σ => passAt tk σ) (pa_cons (pv 0) pa_nil))))
      (cl_as (i := 1) (c := .ref NR) nd rfl rfl ⟨rfl, by decide, .inl T.gr⟩ (fun a oe cls d pn hz hf => pss_exc (N := NR) hz fun hz =>
          pss_cons (ps_set (i := 2) nd rfl (.inl rfl) (pe_or (pe_callB (call_isE T.c hz hf) (by rfl) T.isi (by decide +kernel) (pa_cons (pv 1) (pa_cons (pe_glob (v := .ref NN) rfl T.gn rfl) pa_nil)))
            (pe_or (pe_callB (call_isE T.c hz hf) (by rfl) T.isi (by decide +kernel) (pa_cons (pv 1) (pa_cons (pe_glob (v := .ref NB) rfl T.gb rfl) pa_nil)))
              (pe_one (pe_callB (call_isE T.c hz hf) (by rfl) T.isi (by decide +kernel) (pa_cons (pv 1) (pa_cons (pe_glob (v := .ref N) rfl T.gc rfl) pa_nil)))))))
          (pss_one (ps_ret (pe_ix (show IxR _ (rIxL K) from ix_list) (pe_lst (pa_cons pe_str (pa_cons pe_str pa_nil))) (pe_callTy call_int1 (by rfl) T.int (by decide +kernel) (pa_cons
            (pe_and (pe_callB (call_isE T.c hz hf) (by rfl) T.isi (by decide +kernel) (pa_cons (pv 1) (pa_cons (pe_glob (v := .ref HE) rfl T.gh rfl) pa_nil)))
              (pe_and (pe_callB (call_isE T.c hz hf) (by rfl) T.isi (by decide +kernel) (pa_cons (pv 1) (pa_cons (pe_bltn (v := .ty "ValueError") (by rfl) T.zv (by decide +kernel) rfl) pa_nil)))
                (pe_one (pe_not (pv 2))))) pa_nil)) (fun _ _ => rfl)))))
      (cl_one (c := .ref NN) ⟨rfl, by decide, .inl T.gn⟩ (fun a oe cls d pn hz hf => pss_one (ps_ret pe_str))
      (cl_one (c := .ref NB) ⟨rfl, by decide, .inl T.gb⟩ (fun a oe cls d pn hz hf => pss_one (ps_ret pe_str))
      (cl_one (c := .ref N) ⟨rfl, by decide, .inl T.gc⟩ (fun a oe cls d pn hz hf => pss_one (ps_ret pe_str))
      (cl_one (c := .ref NF) ⟨rfl, by decide, .inl T.gf⟩ (fun a oe cls d pn hz hf => pss_one (ps_ret pe_str)) cl_nil))))))
    (pss_one (ps_ret pe_str)), ?_⟩
  refine ⟨_, rfl, l, rs, rfl, el, h500, hl, fun e he H' s => ?_, fun h he A H' own s fr ha => ?_⟩
  · have q0 := q
    have q := q H' s
    rw [kind_inl he] at q q0
    cases e with
    | row =>
      refine ⟨true, X.rr, fun _ a ha => ⟨⟨rfl, rfl⟩, ?_⟩, fun w => (by cases w)⟩
      refine ⟨_, rfl, _, _, false, rfl, fun u h => h, X.kn, _, rfl, ?_⟩
      refine ⟨_, rfl, _, _, false, rfl, fun u h => h, X.kb, _, rfl, ?_⟩
      refine ⟨_, rfl, _, _, false, rfl, fun u h => h, X.kc, ?_⟩
      refine ⟨(by show 2 ≤ sizeLine; decide), fun l' hl' => ?_⟩
      refine ⟨_, rfl, _, _, true, rfl, fun u h => h, T.kh, _, rfl, ?_⟩
      refine ⟨_, rfl, _, _, true, rfl, fun u h => h, T.kv, _, rfl, ?_⟩
      refine ⟨_, rfl, _, rfl, .inr ⟨true, rfl, ?_⟩⟩
      refine ⟨l', _, 1, .str "no row", rfl, rfl, SqL.of upd_same, rfl, ?_⟩
      exact q0 _ (s.trans (same_new hl' _))
    | name => exact ⟨false, X.nr, fun w => (by cases w), fun _ => ⟨true, X.nn, fun _ a ha => q, fun w => by cases w⟩⟩
    | num => exact ⟨false, X.br, fun w => (by cases w), fun _ => ⟨false, X.bn, fun w => (by cases w), fun _ => ⟨true, X.bb, fun _ a ha => q, fun w => by cases w⟩⟩⟩
    | rcp => exact ⟨false, X.cr, fun w => (by cases w), fun _ => ⟨false, X.cn, fun w => (by cases w), fun _ => ⟨false, X.cb, fun w => (by cases w), fun _ => ⟨true, X.cc, fun _ a ha => q, fun w => by cases w⟩⟩⟩⟩
    | full => exact ⟨false, X.fr, fun w => (by cases w), fun _ => ⟨false, X.fn, fun w => (by cases w), fun _ => ⟨false, X.fb, fun w => (by cases w), fun _ => ⟨false, X.fc, fun w => (by cases w), fun _ => ⟨true, X.ff, fun _ a ha => q, fun w => by cases w⟩⟩⟩⟩⟩
  · have q := q H' s
    rw [kind_inr he] at q
    exact q
end
end Aw

namespace Aw
open PySem L2
/-! ### k32: the rows -/
def TupS (G : Hp) (v : V) (p : Str × Str) : Prop := ∃ a, v = .ref a ∧ G a = some (.tup [.str p.1, .str p.2])
theorem TupS.same {G G' : Hp} {v : V} {p : Str × Str} (h : TupS G v p) (s : Same G G') : TupS G' v p := by
  obtain ⟨a, e, q⟩ := h
  exact ⟨a, e, s _ _ q⟩
theorem up2 {H : Hp} {p : Addr} {o : HO} (hp : H p = none) : ∃ G, G = upd H p o ∧ Same H G ∧ G p = some o := ⟨_, rfl, same_new hp _, upd_same⟩
theorem pick24 {G : Hp} {V : List V} {z : Str} {c : Int} (R : LR (TupS G) V (rows24 z)) : 0 < ((V.length : Nat) : Int) ∧ ∃ a p, atI V (c % ((V.length : Nat) : Int)) = some (.ref a) ∧ G a = some (.tup [.str p.1, .str p.2]) ∧ p ∈ rows24 z := by
  have l : V.length = 24 := R.len
  have h0 : 0 < ((V.length : Nat) : Int) := by omega
  refine ⟨h0, ?_⟩
  have m0 := Int.emod_nonneg c (by omega : ((V.length : Nat) : Int) ≠ 0)
  have m1 := Int.emod_lt_of_pos c h0
  obtain ⟨n, hn⟩ : ∃ n : Nat, c % ((V.length : Nat) : Int) = (n : Int) := ⟨(c % ((V.length : Nat) : Int)).toNat, by omega⟩
  have nl : n < V.length := by omega
  obtain ⟨p, hp, a, ea, q⟩ := R.get (List.getElem?_eq_getElem nl)
  exact ⟨a, p, by rw [hn]; exact atI_nat (by rw [List.getElem?_eq_getElem nl, ea]), q, List.mem_of_getElem? hp⟩
def spRow32 : Sp := fun vs H Q _ => ∃ (c : Int) (z : Str), vs = [.int c, .str z] ∧ z.length ≤ 20 ∧ ∀ (a : Addr) (H' : Hp) (p : Str × Str), Same H H' → H' a = some (.tup [.str p.1, .str p.2]) → p ∈ rows24 z → Q (.ref a) H'
section
variable {P : Program} {w : World} {K : PySem.W.Frag} {mg : Str → Option Value} {base : Heap} {f : Addr} {fd : FuncData}
set_option maxHeartbeats 0 in
theorem ok_row32 (F : Fun K "_law_row" "_law_row" s_law_row f fd) (T : TxtL K mg) : FnOk P w K mg base CX0 1 f fd ["_law_cell", "_law_name"] spRow32 := by
  refine F.ok sc_law_row (fun vs H Q E h => ?_) (fun cdv A00 outer s H vs Q E hr h => ?_)
  · obtain ⟨c, z, rfl, _⟩ := h
    rfl
  obtain ⟨c, z, rfl, hz, q⟩ := h
  have nd := sc_law_row.nd
  refine ⟨_, pss_cons (ps_set (i := 2) nd rfl (.inl rfl) (pe_lst (pa_cons (pe_tup (pa_cons (pe_op op_add_str (pe_op op_add_str pe_str (pv 1)) pe_str) (pa_cons pe_str pa_nil))) (pa_cons (pe_tup (pa_cons (pe_op op_add_str (pe_op op_add_str pe_str (pv 1)) pe_str) (pa_cons pe_str pa_nil))) (pa_cons (pe_tup (pa_cons (pe_op op_add_str pe_str (pv 1)) (pa_cons pe_str pa_nil))) pa_nil)))))
    (pss_cons (ps_set (i := 2) nd rfl (.inl rfl) (pe_op op_cat (pv 2) (pe_lst (pa_cons (pe_tup (pa_cons (pe_op op_add_str (pe_op op_add_str pe_str (pv 1)) pe_str) (pa_cons pe_str pa_nil))) (pa_cons (pe_tup (pa_cons (pe_op op_add_str (pe_op op_add_str pe_str (pv 1)) pe_str) (pa_cons pe_str pa_nil))) (pa_cons (pe_tup (pa_cons pe_str (pa_cons pe_str pa_nil))) pa_nil))))))
    (pss_cons (ps_set (i := 2) nd rfl (.inl rfl) (pe_op op_cat (pv 2) (pe_lst (pa_cons (pe_tup (pa_cons (pe_op op_add_str (pe_op op_add_str pe_str (pv 1)) pe_str) (pa_cons pe_str pa_nil))) (pa_cons (pe_tup (pa_cons (pe_op op_add_str (pe_op op_add_str pe_str (pv 1)) pe_str) (pa_cons pe_str pa_nil))) (pa_cons (pe_tup (pa_cons pe_str (pa_cons pe_str pa_nil))) pa_nil))))))
    (pss_cons (ps_set (i := 2) nd rfl (.inl rfl) (pe_op op_cat (pv 2) (pe_lst (pa_cons (pe_tup (pa_cons (pe_op op_add_str (pe_op op_add_str pe_str (pv 1)) pe_str) (pa_cons pe_str pa_nil))) (pa_cons (pe_tup (pa_cons pe_str (pa_cons pe_str pa_nil))) (pa_cons (pe_tup (pa_cons pe_str (pa_cons pe_str pa_nil))) pa_nil))))))
    (pss_cons (ps_set (i := 2) nd rfl (.inl rfl) (pe_op op_cat (pv 2) (pe_lst (pa_cons (pe_tup (pa_cons (pe_op op_add_str (pe_op op_add_str pe_str (pv 1)) pe_str) (pa_cons pe_str pa_nil))) (pa_cons (pe_tup (pa_cons (pe_op op_add_str (pe_op op_add_str pe_str (pv 1)) pe_str) (pa_cons pe_str pa_nil))) (pa_cons (pe_tup (pa_cons (pe_op op_add_str pe_str (pv 1)) (pa_cons pe_str pa_nil))) pa_nil))))))
    (pss_cons (ps_set (i := 2) nd rfl (.inl rfl) (pe_op op_cat (pv 2) (pe_lst (pa_cons (pe_tup (pa_cons pe_str (pa_cons pe_str pa_nil))) (pa_cons (pe_tup (pa_cons pe_str (pa_cons pe_str pa_nil))) (pa_cons (pe_tup (pa_cons (pe_op op_add_str (pe_op op_add_str pe_str (pv 1)) pe_str) (pa_cons pe_str pa_nil))) pa_nil))))))
    (pss_cons (ps_set (i := 2) nd rfl (.inl rfl) (pe_op op_cat (pv 2) (pe_lst (pa_cons (pe_tup (pa_cons (pe_op op_add_str (pe_op op_add_str pe_str (pv 1)) pe_str) (pa_cons pe_str pa_nil))) (pa_cons (pe_tup (pa_cons (pe_op op_add_str (pe_op op_add_str pe_str (pv 1)) pe_str) (pa_cons pe_str pa_nil))) (pa_cons (pe_tup (pa_cons pe_str (pa_cons pe_str pa_nil))) pa_nil))))))
    (pss_cons (ps_set (i := 2) nd rfl (.inl rfl) (pe_op op_cat (pv 2) (pe_lst (pa_cons (pe_tup (pa_cons (pe_op op_add_str (pe_op op_add_str pe_str (pv 1)) pe_str) (pa_cons pe_str pa_nil))) (pa_cons (pe_tup (pa_cons pe_str (pa_cons pe_str pa_nil))) (pa_cons (pe_tup (pa_cons (pe_op op_add_str (pe_op op_add_str pe_str (pv 1)) pe_str) (pa_cons pe_str pa_nil))) pa_nil))))))
    (pss_one (ps_ret (pe_ix ix_list (pv 2) (pe_op op_mod (pv 0) (pe_callB call_len_seq (by rfl) T.len PySem.boot_len (pa_cons (pv 2) pa_nil))) (fun _ _ => rfl))))))))))), ?_⟩
  refine ⟨_, rfl, _, _, rfl, rfl, big (by show 5 + z.length ≤ _; omega), _, _, rfl, rfl, big (by rw [len_app]; show 5 + z.length + 2 ≤ _; omega), (by show 2 ≤ sizeLine; decide), fun t0 ht0 => ?_⟩
  obtain ⟨G0, eG0, s0, e0⟩ := up2 (o := .tup [V.str ("well " ++ z ++ " 7"), V.str "done"]) ht0
  rw [show upd _ t0 _ = G0 from eG0.symm]
  refine ⟨_, rfl, _, _, rfl, rfl, big (by show 5 + z.length ≤ _; omega), _, _, rfl, rfl, big (by rw [len_app]; show 5 + z.length + 2 ≤ _; omega), (by show 2 ≤ sizeLine; decide), fun t1 ht1 => ?_⟩
  obtain ⟨G1, eG1, s1, e1⟩ := up2 (o := .tup [V.str ("Well " ++ z ++ " 7"), V.str "no row"]) ht1
  rw [show upd _ t1 _ = G1 from eG1.symm]
  refine ⟨_, rfl, _, _, rfl, rfl, big (by show 5 + z.length ≤ _; omega), (by show 2 ≤ sizeLine; decide), fun t2 ht2 => ?_⟩
  obtain ⟨G2, eG2, s2, e2⟩ := up2 (o := .tup [V.str ("well " ++ z), V.str "no row"]) ht2
  rw [show upd _ t2 _ = G2 from eG2.symm]
  refine ⟨(by show 3 ≤ sizeLine; decide), fun l0 hl0 => ?_⟩
  obtain ⟨K0, eK0, sK0, fK0⟩ := up2 (o := .lst [V.ref t0, V.ref t1, V.ref t2]) hl0
  rw [show upd _ l0 _ = K0 from eK0.symm]
  have n0 : LR (TupS K0) [V.ref t0, V.ref t1, V.ref t2] [("well " ++ z ++ " 7", "done"), ("Well " ++ z ++ " 7", "no row"), ("well " ++ z, "no row")] := .cons ⟨t0, rfl, sK0 _ _ (s2 _ _ (s1 _ _ e0))⟩ (.cons ⟨t1, rfl, sK0 _ _ (s2 _ _ e1)⟩ (.cons ⟨t2, rfl, sK0 _ _ e2⟩ .nil))
  have S0 : Same H K0 := (((s0.trans s1).trans s2).trans sK0)
  have R0 : LR (TupS K0) [V.ref t0, V.ref t1, V.ref t2] ((rows24 z).take 3) := n0
  have F0 := fK0
  refine ⟨_, rfl, _, rfl, _, _, rfl, rfl, big (by show 5 + z.length ≤ _; omega), _, _, rfl, rfl, big (by rw [len_app]; show 5 + z.length + 1 ≤ _; omega), (by show 2 ≤ sizeLine; decide), fun t3 ht3 => ?_⟩
  obtain ⟨G3, eG3, s3, e3⟩ := up2 (o := .tup [V.str ("well " ++ z ++ " "), V.str "no row"]) ht3
  rw [show upd _ t3 _ = G3 from eG3.symm]
  refine ⟨_, rfl, _, _, rfl, rfl, big (by show 5 + z.length ≤ _; omega), _, _, rfl, rfl, big (by rw [len_app]; show 5 + z.length + 4 ≤ _; omega), (by show 2 ≤ sizeLine; decide), fun t4 ht4 => ?_⟩
  obtain ⟨G4, eG4, s4, e4⟩ := up2 (o := .tup [V.str ("well " ++ z ++ " 007"), V.str "no row"]) ht4
  rw [show upd _ t4 _ = G4 from eG4.symm]
  refine ⟨(by show 2 ≤ sizeLine; decide), fun t5 ht5 => ?_⟩
  obtain ⟨G5, eG5, s5, e5⟩ := up2 (o := .tup [V.str ("well"), V.str "no row"]) ht5
  rw [show upd _ t5 _ = G5 from eG5.symm]
  refine ⟨(by show 3 ≤ sizeLine; decide), fun l1 hl1 => ?_⟩
  obtain ⟨K1, eK1, sK1, fK1⟩ := up2 (o := .lst [V.ref t3, V.ref t4, V.ref t5]) hl1
  rw [show upd _ l1 _ = K1 from eK1.symm]
  have n1 : LR (TupS K1) [V.ref t3, V.ref t4, V.ref t5] [("well " ++ z ++ " ", "no row"), ("well " ++ z ++ " 007", "no row"), ("well", "no row")] := .cons ⟨t3, rfl, sK1 _ _ (s5 _ _ (s4 _ _ e3))⟩ (.cons ⟨t4, rfl, sK1 _ _ (s5 _ _ e4)⟩ (.cons ⟨t5, rfl, sK1 _ _ e5⟩ .nil))
  have P1 : LR (TupS K1) _ ((rows24 z).take 3) := R0.imp fun _ _ _ w => w.same (((s3.trans s4).trans s5).trans sK1)
  have E1 := (((s3.trans s4).trans s5).trans sK1) _ _ F0
  have z1 := P1.len
  refine ⟨l0, l1, _, _, rfl, rfl, E1, fK1, (by rw [z1]; show (3 + 3 : Nat) ≤ sizeLine; decide), fun m1 hm1 => ?_⟩
  obtain ⟨Q1, eQ1, sQ1, F1⟩ := up2 (o := .lst (_ ++ [V.ref t3, V.ref t4, V.ref t5])) hm1
  rw [show upd _ m1 _ = Q1 from eQ1.symm]
  have R1 : LR (TupS Q1) _ ((rows24 z).take 6) := (P1.append n1).imp fun _ _ _ w => w.same sQ1
  have S1 : Same H Q1 := (S0.trans (((s3.trans s4).trans s5).trans sK1)).trans sQ1
  refine ⟨_, rfl, _, rfl, _, _, rfl, rfl, big (by show 5 + z.length ≤ _; omega), _, _, rfl, rfl, big (by rw [len_app]; show 5 + z.length + 3 ≤ _; omega), (by show 2 ≤ sizeLine; decide), fun t6 ht6 => ?_⟩
  obtain ⟨G6, eG6, s6, e6⟩ := up2 (o := .tup [V.str ("well " ++ z ++ " -1"), V.str "no row"]) ht6
  rw [show upd _ t6 _ = G6 from eG6.symm]
  refine ⟨_, rfl, _, _, rfl, rfl, big (by show 5 + z.length ≤ _; omega), _, _, rfl, rfl, big (by rw [len_app]; show 5 + z.length + 3 ≤ _; omega), (by show 2 ≤ sizeLine; decide), fun t7 ht7 => ?_⟩
  obtain ⟨G7, eG7, s7, e7⟩ := up2 (o := .tup [V.str ("well " ++ z ++ "  7"), V.str "no row"]) ht7
  rw [show upd _ t7 _ = G7 from eG7.symm]
  refine ⟨(by show 2 ≤ sizeLine; decide), fun t8 ht8 => ?_⟩
  obtain ⟨G8, eG8, s8, e8⟩ := up2 (o := .tup [V.str (""), V.str "no row"]) ht8
  rw [show upd _ t8 _ = G8 from eG8.symm]
  refine ⟨(by show 3 ≤ sizeLine; decide), fun l2 hl2 => ?_⟩
  obtain ⟨K2, eK2, sK2, fK2⟩ := up2 (o := .lst [V.ref t6, V.ref t7, V.ref t8]) hl2
  rw [show upd _ l2 _ = K2 from eK2.symm]
  have n2 : LR (TupS K2) [V.ref t6, V.ref t7, V.ref t8] [("well " ++ z ++ " -1", "no row"), ("well " ++ z ++ "  7", "no row"), ("", "no row")] := .cons ⟨t6, rfl, sK2 _ _ (s8 _ _ (s7 _ _ e6))⟩ (.cons ⟨t7, rfl, sK2 _ _ (s8 _ _ e7)⟩ (.cons ⟨t8, rfl, sK2 _ _ e8⟩ .nil))
  have P2 : LR (TupS K2) _ ((rows24 z).take 6) := R1.imp fun _ _ _ w => w.same (((s6.trans s7).trans s8).trans sK2)
  have E2 := (((s6.trans s7).trans s8).trans sK2) _ _ F1
  have z2 := P2.len
  refine ⟨m1, l2, _, _, rfl, rfl, E2, fK2, (by rw [z2]; show (6 + 3 : Nat) ≤ sizeLine; decide), fun m2 hm2 => ?_⟩
  obtain ⟨Q2, eQ2, sQ2, F2⟩ := up2 (o := .lst (_ ++ [V.ref t6, V.ref t7, V.ref t8])) hm2
  rw [show upd _ m2 _ = Q2 from eQ2.symm]
  have R2 : LR (TupS Q2) _ ((rows24 z).take 9) := (P2.append n2).imp fun _ _ _ w => w.same sQ2
  have S2 : Same H Q2 := (S1.trans (((s6.trans s7).trans s8).trans sK2)).trans sQ2
  refine ⟨_, rfl, _, rfl, _, _, rfl, rfl, big (by show 5 + z.length ≤ _; omega), _, _, rfl, rfl, big (by rw [len_app]; show 5 + z.length + 3 ≤ _; omega), (by show 2 ≤ sizeLine; decide), fun t9 ht9 => ?_⟩
  obtain ⟨G9, eG9, s9, e9⟩ := up2 (o := .tup [V.str ("well " ++ z ++ " 31"), V.str "no number"]) ht9
  rw [show upd _ t9 _ = G9 from eG9.symm]
  refine ⟨(by show 2 ≤ sizeLine; decide), fun t10 ht10 => ?_⟩
  obtain ⟨G10, eG10, s10, e10⟩ := up2 (o := .tup [V.str ("well A9 99"), V.str "no name"]) ht10
  rw [show upd _ t10 _ = G10 from eG10.symm]
  refine ⟨(by show 2 ≤ sizeLine; decide), fun t11 ht11 => ?_⟩
  obtain ⟨G11, eG11, s11, e11⟩ := up2 (o := .tup [V.str ("well A9 x"), V.str "no row"]) ht11
  rw [show upd _ t11 _ = G11 from eG11.symm]
  refine ⟨(by show 3 ≤ sizeLine; decide), fun l3 hl3 => ?_⟩
  obtain ⟨K3, eK3, sK3, fK3⟩ := up2 (o := .lst [V.ref t9, V.ref t10, V.ref t11]) hl3
  rw [show upd _ l3 _ = K3 from eK3.symm]
  have n3 : LR (TupS K3) [V.ref t9, V.ref t10, V.ref t11] [("well " ++ z ++ " 31", "no number"), ("well A9 99", "no name"), ("well A9 x", "no row")] := .cons ⟨t9, rfl, sK3 _ _ (s11 _ _ (s10 _ _ e9))⟩ (.cons ⟨t10, rfl, sK3 _ _ (s11 _ _ e10)⟩ (.cons ⟨t11, rfl, sK3 _ _ e11⟩ .nil))
  have P3 : LR (TupS K3) _ ((rows24 z).take 9) := R2.imp fun _ _ _ w => w.same (((s9.trans s10).trans s11).trans sK3)
  have E3 := (((s9.trans s10).trans s11).trans sK3) _ _ F2
  have z3 := P3.len
  refine ⟨m2, l3, _, _, rfl, rfl, E3, fK3, (by rw [z3]; show (9 + 3 : Nat) ≤ sizeLine; decide), fun m3 hm3 => ?_⟩
  obtain ⟨Q3, eQ3, sQ3, F3⟩ := up2 (o := .lst (_ ++ [V.ref t9, V.ref t10, V.ref t11])) hm3
  rw [show upd _ m3 _ = Q3 from eQ3.symm]
  have R3 : LR (TupS Q3) _ ((rows24 z).take 12) := (P3.append n3).imp fun _ _ _ w => w.same sQ3
  have S3 : Same H Q3 := (S2.trans (((s9.trans s10).trans s11).trans sK3)).trans sQ3
  refine ⟨_, rfl, _, rfl, _, _, rfl, rfl, big (by show 5 + z.length ≤ _; omega), _, _, rfl, rfl, big (by rw [len_app]; show 5 + z.length + 3 ≤ _; omega), (by show 2 ≤ sizeLine; decide), fun t12 ht12 => ?_⟩
  obtain ⟨G12, eG12, s12, e12⟩ := up2 (o := .tup [V.str ("well " ++ z ++ " 05"), V.str "done"]) ht12
  rw [show upd _ t12 _ = G12 from eG12.symm]
  refine ⟨_, rfl, _, _, rfl, rfl, big (by show 5 + z.length ≤ _; omega), _, _, rfl, rfl, big (by rw [len_app]; show 5 + z.length + 1 ≤ _; omega), (by show 2 ≤ sizeLine; decide), fun t13 ht13 => ?_⟩
  obtain ⟨G13, eG13, s13, e13⟩ := up2 (o := .tup [V.str ("work " ++ z ++ " "), V.str "no recipe"]) ht13
  rw [show upd _ t13 _ = G13 from eG13.symm]
  refine ⟨_, rfl, _, _, rfl, rfl, big (by show 5 + z.length ≤ _; omega), (by show 2 ≤ sizeLine; decide), fun t14 ht14 => ?_⟩
  obtain ⟨G14, eG14, s14, e14⟩ := up2 (o := .tup [V.str ("work " ++ z), V.str "no row"]) ht14
  rw [show upd _ t14 _ = G14 from eG14.symm]
  refine ⟨(by show 3 ≤ sizeLine; decide), fun l4 hl4 => ?_⟩
  obtain ⟨K4, eK4, sK4, fK4⟩ := up2 (o := .lst [V.ref t12, V.ref t13, V.ref t14]) hl4
  rw [show upd _ l4 _ = K4 from eK4.symm]
  have n4 : LR (TupS K4) [V.ref t12, V.ref t13, V.ref t14] [("well " ++ z ++ " 05", "done"), ("work " ++ z ++ " ", "no recipe"), ("work " ++ z, "no row")] := .cons ⟨t12, rfl, sK4 _ _ (s14 _ _ (s13 _ _ e12))⟩ (.cons ⟨t13, rfl, sK4 _ _ (s14 _ _ e13)⟩ (.cons ⟨t14, rfl, sK4 _ _ e14⟩ .nil))
  have P4 : LR (TupS K4) _ ((rows24 z).take 12) := R3.imp fun _ _ _ w => w.same (((s12.trans s13).trans s14).trans sK4)
  have E4 := (((s12.trans s13).trans s14).trans sK4) _ _ F3
  have z4 := P4.len
  refine ⟨m3, l4, _, _, rfl, rfl, E4, fK4, (by rw [z4]; show (12 + 3 : Nat) ≤ sizeLine; decide), fun m4 hm4 => ?_⟩
  obtain ⟨Q4, eQ4, sQ4, F4⟩ := up2 (o := .lst (_ ++ [V.ref t12, V.ref t13, V.ref t14])) hm4
  rw [show upd _ m4 _ = Q4 from eQ4.symm]
  have R4 : LR (TupS Q4) _ ((rows24 z).take 15) := (P4.append n4).imp fun _ _ _ w => w.same sQ4
  have S4 : Same H Q4 := (S3.trans (((s12.trans s13).trans s14).trans sK4)).trans sQ4
  refine ⟨_, rfl, (by show 2 ≤ sizeLine; decide), fun t15 ht15 => ?_⟩
  obtain ⟨G15, eG15, s15, e15⟩ := up2 (o := .tup [V.str ("work  a"), V.str "no name"]) ht15
  rw [show upd _ t15 _ = G15 from eG15.symm]
  refine ⟨(by show 2 ≤ sizeLine; decide), fun t16 ht16 => ?_⟩
  obtain ⟨G16, eG16, s16, e16⟩ := up2 (o := .tup [V.str ("work b1 a +"), V.str "no name"]) ht16
  rw [show upd _ t16 _ = G16 from eG16.symm]
  refine ⟨_, rfl, _, _, rfl, rfl, big (by show 5 + z.length ≤ _; omega), _, _, rfl, rfl, big (by rw [len_app]; show 5 + z.length + 4 ≤ _; omega), (by show 2 ≤ sizeLine; decide), fun t17 ht17 => ?_⟩
  obtain ⟨G17, eG17, s17, e17⟩ := up2 (o := .tup [V.str ("work " ++ z ++ " a +"), V.str "no recipe"]) ht17
  rw [show upd _ t17 _ = G17 from eG17.symm]
  refine ⟨(by show 3 ≤ sizeLine; decide), fun l5 hl5 => ?_⟩
  obtain ⟨K5, eK5, sK5, fK5⟩ := up2 (o := .lst [V.ref t15, V.ref t16, V.ref t17]) hl5
  rw [show upd _ l5 _ = K5 from eK5.symm]
  have n5 : LR (TupS K5) [V.ref t15, V.ref t16, V.ref t17] [("work  a", "no name"), ("work b1 a +", "no name"), ("work " ++ z ++ " a +", "no recipe")] := .cons ⟨t15, rfl, sK5 _ _ (s17 _ _ (s16 _ _ e15))⟩ (.cons ⟨t16, rfl, sK5 _ _ (s17 _ _ e16)⟩ (.cons ⟨t17, rfl, sK5 _ _ e17⟩ .nil))
  have P5 : LR (TupS K5) _ ((rows24 z).take 15) := R4.imp fun _ _ _ w => w.same (((s15.trans s16).trans s17).trans sK5)
  have E5 := (((s15.trans s16).trans s17).trans sK5) _ _ F4
  have z5 := P5.len
  refine ⟨m4, l5, _, _, rfl, rfl, E5, fK5, (by rw [z5]; show (15 + 3 : Nat) ≤ sizeLine; decide), fun m5 hm5 => ?_⟩
  obtain ⟨Q5, eQ5, sQ5, F5⟩ := up2 (o := .lst (_ ++ [V.ref t15, V.ref t16, V.ref t17])) hm5
  rw [show upd _ m5 _ = Q5 from eQ5.symm]
  have R5 : LR (TupS Q5) _ ((rows24 z).take 18) := (P5.append n5).imp fun _ _ _ w => w.same sQ5
  have S5 : Same H Q5 := (S4.trans (((s15.trans s16).trans s17).trans sK5)).trans sQ5
  refine ⟨_, rfl, _, rfl, _, _, rfl, rfl, big (by show 6 + z.length ≤ _; omega), _, _, rfl, rfl, big (by rw [len_app]; show 6 + z.length + 2 ≤ _; omega), (by show 2 ≤ sizeLine; decide), fun t18 ht18 => ?_⟩
  obtain ⟨G18, eG18, s18, e18⟩ := up2 (o := .tup [V.str (" well " ++ z ++ " 7"), V.str "no row"]) ht18
  rw [show upd _ t18 _ = G18 from eG18.symm]
  refine ⟨_, rfl, _, _, rfl, rfl, big (by show 5 + z.length ≤ _; omega), _, _, rfl, rfl, big (by rw [len_app]; show 5 + z.length + 9 ≤ _; omega), (by show 2 ≤ sizeLine; decide), fun t19 ht19 => ?_⟩
  obtain ⟨G19, eG19, s19, e19⟩ := up2 (o := .tup [V.str ("work " ++ z ++ "  3 +  4 "), V.str "done"]) ht19
  rw [show upd _ t19 _ = G19 from eG19.symm]
  refine ⟨(by show 2 ≤ sizeLine; decide), fun t20 ht20 => ?_⟩
  obtain ⟨G20, eG20, s20, e20⟩ := up2 (o := .tup [V.str ("put a 3"), V.str "no row"]) ht20
  rw [show upd _ t20 _ = G20 from eG20.symm]
  refine ⟨(by show 3 ≤ sizeLine; decide), fun l6 hl6 => ?_⟩
  obtain ⟨K6, eK6, sK6, fK6⟩ := up2 (o := .lst [V.ref t18, V.ref t19, V.ref t20]) hl6
  rw [show upd _ l6 _ = K6 from eK6.symm]
  have n6 : LR (TupS K6) [V.ref t18, V.ref t19, V.ref t20] [(" well " ++ z ++ " 7", "no row"), ("work " ++ z ++ "  3 +  4 ", "done"), ("put a 3", "no row")] := .cons ⟨t18, rfl, sK6 _ _ (s20 _ _ (s19 _ _ e18))⟩ (.cons ⟨t19, rfl, sK6 _ _ (s20 _ _ e19)⟩ (.cons ⟨t20, rfl, sK6 _ _ e20⟩ .nil))
  have P6 : LR (TupS K6) _ ((rows24 z).take 18) := R5.imp fun _ _ _ w => w.same (((s18.trans s19).trans s20).trans sK6)
  have E6 := (((s18.trans s19).trans s20).trans sK6) _ _ F5
  have z6 := P6.len
  refine ⟨m5, l6, _, _, rfl, rfl, E6, fK6, (by rw [z6]; show (18 + 3 : Nat) ≤ sizeLine; decide), fun m6 hm6 => ?_⟩
  obtain ⟨Q6, eQ6, sQ6, F6⟩ := up2 (o := .lst (_ ++ [V.ref t18, V.ref t19, V.ref t20])) hm6
  rw [show upd _ m6 _ = Q6 from eQ6.symm]
  have R6 : LR (TupS Q6) _ ((rows24 z).take 21) := (P6.append n6).imp fun _ _ _ w => w.same sQ6
  have S6 : Same H Q6 := (S5.trans (((s18.trans s19).trans s20).trans sK6)).trans sQ6
  refine ⟨_, rfl, _, rfl, _, _, rfl, rfl, big (by show 5 + z.length ≤ _; omega), _, _, rfl, rfl, big (by rw [len_app]; show 5 + z.length + 3 ≤ _; omega), (by show 2 ≤ sizeLine; decide), fun t21 ht21 => ?_⟩
  obtain ⟨G21, eG21, s21, e21⟩ := up2 (o := .tup [V.str ("well " ++ z ++ " 7 "), V.str "no row"]) ht21
  rw [show upd _ t21 _ = G21 from eG21.symm]
  refine ⟨(by show 2 ≤ sizeLine; decide), fun t22 ht22 => ?_⟩
  obtain ⟨G22, eG22, s22, e22⟩ := up2 (o := .tup [V.str ("well  7"), V.str "no name"]) ht22
  rw [show upd _ t22 _ = G22 from eG22.symm]
  refine ⟨_, rfl, _, _, rfl, rfl, big (by show 6 + z.length ≤ _; omega), _, _, rfl, rfl, big (by rw [len_app]; show 6 + z.length + 2 ≤ _; omega), (by show 2 ≤ sizeLine; decide), fun t23 ht23 => ?_⟩
  obtain ⟨G23, eG23, s23, e23⟩ := up2 (o := .tup [V.str ("wells " ++ z ++ " 7"), V.str "no row"]) ht23
  rw [show upd _ t23 _ = G23 from eG23.symm]
  refine ⟨(by show 3 ≤ sizeLine; decide), fun l7 hl7 => ?_⟩
  obtain ⟨K7, eK7, sK7, fK7⟩ := up2 (o := .lst [V.ref t21, V.ref t22, V.ref t23]) hl7
  rw [show upd _ l7 _ = K7 from eK7.symm]
  have n7 : LR (TupS K7) [V.ref t21, V.ref t22, V.ref t23] [("well " ++ z ++ " 7 ", "no row"), ("well  7", "no name"), ("wells " ++ z ++ " 7", "no row")] := .cons ⟨t21, rfl, sK7 _ _ (s23 _ _ (s22 _ _ e21))⟩ (.cons ⟨t22, rfl, sK7 _ _ (s23 _ _ e22)⟩ (.cons ⟨t23, rfl, sK7 _ _ e23⟩ .nil))
  have P7 : LR (TupS K7) _ ((rows24 z).take 21) := R6.imp fun _ _ _ w => w.same (((s21.trans s22).trans s23).trans sK7)
  have E7 := (((s21.trans s22).trans s23).trans sK7) _ _ F6
  have z7 := P7.len
  refine ⟨m6, l7, _, _, rfl, rfl, E7, fK7, (by rw [z7]; show (21 + 3 : Nat) ≤ sizeLine; decide), fun m7 hm7 => ?_⟩
  obtain ⟨Q7, eQ7, sQ7, F7⟩ := up2 (o := .lst (_ ++ [V.ref t21, V.ref t22, V.ref t23])) hm7
  rw [show upd _ m7 _ = Q7 from eQ7.symm]
  have R7 : LR (TupS Q7) _ ((rows24 z).take 24) := (P7.append n7).imp fun _ _ _ w => w.same sQ7
  have S7 : Same H Q7 := (S6.trans (((s21.trans s22).trans s23).trans sK7)).trans sQ7
  obtain ⟨h0, a, p, ha, hG, hp⟩ := pick24 (c := c) R7
  refine ⟨_, rfl, _, rfl, _, rfl, m7, _, rfl, .inl (SqL.of F7), _, _, rfl, rfl, h0, m7, _, _, .ref a, rfl, rfl, SqL.of F7, ha, ?_⟩
  exact q a Q7 p S7 hG hp
end
end Aw

namespace Aw
open PySem L2
/-! ### k32: the wells that rows come to -/
structure TxW (mg : Str → Option Value) : Prop where
  int : mg "int" = none
def dicG (gs : List (Str × Gr)) : AL Int := gs.foldl (fun m x => x.2.dic m) []
theorem dic_len : ∀ (gs : List (Str × Gr)) (m : AL Int), (gs.foldl (fun m x => x.2.dic m) m).length ≤ m.length + gs.length
  | [], m => Nat.le_refl _
  | g :: r, m => by
    have h := dic_len r (g.2.dic m)
    have h2 : (g.2.dic m).length ≤ m.length + 1 := by
      cases g.2 with
      | w z i => exact aput_len m z i
      | k z => exact Nat.le_succ_of_le (adel_len m z)
    rw [List.foldl_cons, List.length_cons]
    omega
def spWells32 : Sp := fun vs H Q _ => ∃ (l : Addr) (gs : List (Str × Gr)), vs = [.ref l] ∧ H l = some (.lst ((rowsG gs).map V.str)) ∧ (∀ g ∈ gs, Good g.1 g.2) ∧ gs.length ≤ 20 ∧ ∀ (p : Addr) (H' : Hp) (kvs : List (Key × V)), Same H H' → H' p = some (.dK kvs) → DR IntV kvs (dicG gs) → Q (.ref p) H'
section
variable {P : Program} {w : World} {K : PySem.W.Frag} {mg : Str → Option Value} {base : Heap} {f : Addr} {fd : FuncData}
set_option maxHeartbeats 0 in
theorem ok_wells32 (F : Fun K "_law_wells" "_law_wells" s_law_wells f fd) (T : TxW mg) : FnOk P w K mg base CX0 1 f fd ["_law_rows"] spWells32 := by
  refine F.ok sc_law_wells (fun vs H Q E h => ?_) (fun cdv A00 outer s H vs Q E hr h => ?_)
  · obtain ⟨l, gs, rfl, _⟩ := h
    rfl
  obtain ⟨l, gs, rfl, el, hg, h20, q⟩ := h
  have nd := sc_law_wells.nd
  refine ⟨_, pss_cons (ps_set (i := 1) nd rfl (.inl rfl) pe_dnewK)
    (pss_cons (ps_for PassesOwn.never rfl (pi_list (pv 0)) (pg_name (i := 2) nd rfl (.inl rfl))
      (pss_cons (ps_set (i := 3) nd rfl (.inl rfl) (pe_split (pv 2) pe_str))
      (pss_one (ps_if (pt_cmpR op_eq (pe_ix ix_list (pv 3) pe_int (fun _ _ => rfl)) pe_str (nomark _))
        (pss_one (ps_dput (hu_of hr) (pv 1) (pe_ix ix_list (pv 3) pe_int (fun _ _ => rfl)) (pe_callTy call_int_str (by rfl) T.int (by decide +kernel) (pa_cons (pe_ix ix_list (pv 3) pe_int (fun _ _ => rfl)) pa_nil)) rfl))
        (pss_one (ps_expr (pe_dpop2 (pv 1) (pe_ix ix_list (pv 3) pe_int (fun _ _ => rfl)) pe_non ⟨rfl, rfl, rfl, rfl⟩)))))))
    (pss_one (ps_ret (pv 1)))), ?_⟩
  refine fun D hD => ?_
  have s1 := same_new hD (.dK [])
  have el1 := s1 _ _ el
  refine ⟨_, rfl, l, rfl, ⟨_, SqL.of el1⟩, for_list (K := K) (a := l) (xs := (rowsG gs).map V.str) (fun i σ H' => ∃ (v2 v3 : Option V) (kvs : List (Key × V)), σ = [some (.ref l), some (.ref D), v2, v3] ∧ Same H H' ∧ H' D = some (.dK kvs) ∧ DR IntV kvs (dicG (gs.take i))) ⟨none, none, [], rfl, s1, upd_same, .nil⟩
    (fun i σ H' _ ⟨_, _, _, _, s, _⟩ => SqL.of (s _ _ el)) ?_ ?_⟩
  · rintro i v σ H7 hi ⟨v2, v3, kvs, rfl, s7, eD, dr⟩
    obtain ⟨row, hrow, rfl⟩ := mk_str hi
    obtain ⟨g, hgi, rfl⟩ : ∃ g, gs[i]? = some g ∧ g.1 = row := by
      unfold rowsG at hrow
      rw [List.getElem?_map] at hrow
      cases e : gs[i]? with
      | none => rw [e] at hrow; cases hrow
      | some g => rw [e] at hrow; cases hrow; exact ⟨g, rfl, rfl⟩
    have gd := hg g (List.mem_of_getElem? hgi)
    have tk : gs.take (i + 1) = gs.take i ++ [g] := take_more hgi
    have dg : dicG (gs.take (i + 1)) = g.2.dic (dicG (gs.take i)) := by unfold dicG; rw [tk, List.foldl_append]; rfl
    have kl : kvs.length ≤ 20 := by
      have h1 := dic_len (gs.take i) []
      have h2 := dr.len
      rw [List.length_take] at h1
      unfold dicG at h2
      show kvs.length ≤ 20
      have : ([] : AL Int).length = 0 := rfl
      omega
    have rl := gd.len
    refine ⟨_, rfl, ⟨_, rfl⟩, g.1, _, rfl, rfl, by decide +kernel, big (by omega), fun p11 hp11 => ?_⟩
    cases hk : g.2 with
    | w z i' =>
      obtain ⟨x, esp, ex, xl⟩ := gd.wd z i' hk
      rw [esp]
      have s11 := same_new hp11 (.lst ([("well" : Str), z, x].map V.str))
      have e11 : (upd H7 p11 (.lst ([("well" : Str), z, x].map V.str))) p11 = some (.lst ([("well" : Str), z, x].map V.str)) := upd_same
      revert s11 e11
      generalize upd H7 p11 (.lst ([("well" : Str), z, x].map V.str)) = H11
      intro s11 e11
      refine ⟨_, rfl, p11, _, _, .str "well", rfl, rfl, SqL.of e11, rfl, rfl, _, rfl, ite2 (fun _ => ?_) (fun c => absurd c (by decide +kernel))⟩
      refine ⟨_, rfl, p11, _, _, .str x, rfl, rfl, SqL.of e11, rfl, ?_⟩
      refine ⟨x, i', rfl, ex, xl, ?_⟩
      refine ⟨_, rfl, _, rfl, p11, _, _, .str z, rfl, rfl, SqL.of e11, rfl, D, _, rfl, DPut.k (k := Sum.inr z) (s11 _ _ eD) (Nat.lt_of_le_of_lt kl (by decide)), ?_⟩
      have sD : Same H (upd H11 D (.dK (putK kvs (Sum.inr z) (.int i')))) := same_upd (s7.trans s11) hD _
      refine ⟨_, _, _, rfl, sD, upd_same, ?_⟩
      rw [dg, hk]
      exact dr.put (R := IntV) rfl
    | k z =>
      obtain ⟨r, esp⟩ := gd.wk z hk
      rw [esp]
      have s11 := same_new hp11 (.lst ((("work" : Str) :: z :: r).map V.str))
      have e11 : (upd H7 p11 (.lst ((("work" : Str) :: z :: r).map V.str))) p11 = some (.lst ((("work" : Str) :: z :: r).map V.str)) := upd_same
      revert s11 e11
      generalize upd H7 p11 (.lst ((("work" : Str) :: z :: r).map V.str)) = H11
      intro s11 e11
      have eD11 := s11 _ _ eD
      refine ⟨_, rfl, p11, _, _, .str "work", rfl, rfl, SqL.of e11, (show atI ((("work" : Str) :: z :: r).map V.str) ((0 : Nat) : Int) = _ from atI_nat rfl), rfl, _, rfl, ite2 (fun c => absurd c (by decide +kernel)) (fun _ => ?_)⟩
      refine ⟨_, rfl, D, rfl, .inl ⟨_, .inl eD11⟩, _, rfl, p11, _, _, .str z, rfl, rfl, SqL.of e11, (show atI ((("work" : Str) :: z :: r).map V.str) ((1 : Nat) : Int) = _ from atI_nat rfl), kvs, Sum.inr z, eD11, rfl, fun u ev => ?_, fun ev => ?_⟩
      · refine ⟨_, _, _, rfl, same_upd (s7.trans s11) hD _, upd_same, ?_⟩
        rw [dg, hk]
        exact dr.del
      · refine ⟨_, _, _, rfl, s7.trans s11, eD11, ?_⟩
        rw [dg, hk]
        show DR IntV kvs (adel (dicG (gs.take i)) z)
        rw [adel_id (fun w => by
          obtain ⟨i, et⟩ := alk_in w
          obtain ⟨u, hv, _⟩ := dr.some et
          rw [ev] at hv; cases hv)]
        exact dr
  · rintro σ H7 ⟨v2, v3, kvs, rfl, s7, eD, dr⟩
    unfold rowsG at dr
    rw [List.length_map, List.length_map, List.take_length] at dr
    exact ⟨_, rfl, q D H7 kvs s7 eD dr⟩
end
end Aw

namespace Aw
open PySem L2
def spNamesU : Sp := fun vs H Q _ => ∃ (c m : Int), vs = [.int c, .int m] ∧ 0 ≤ m ∧ m ≤ 26 ∧ ∀ (l : Addr) (H' : Hp) (nms : List Str), Same H H' → H l = none → H' l = some (.lst (nms.map V.str)) → (nms.length : Int) = m → (∀ s ∈ nms, NameOk s) → nms.Nodup → Q (.ref l) H'
theorem let_inj {x y : Int} (x0 : 0 ≤ x) (x1 : x < 26) (y0 : 0 ≤ y) (y1 : y < 26) (e : atI LET x = atI LET y) : x = y := by
  have nd : LET.Nodup := by decide +kernel
  have ll : LET.length = 26 := by decide +kernel
  have a1 : atI LET ((x.toNat : Nat) : Int) = some LET[x.toNat] := atI_nat (List.getElem?_eq_getElem (by omega))
  have a2 : atI LET ((y.toNat : Nat) : Int) = some LET[y.toNat] := atI_nat (List.getElem?_eq_getElem (by omega))
  rw [show ((x.toNat : Nat) : Int) = x by omega] at a1
  rw [show ((y.toNat : Nat) : Int) = y by omega] at a2
  rw [a1, a2] at e
  have := (List.getElem_inj (h₀ := by omega) (h₁ := by omega) nd).mp (Option.some.inj e)
  omega
theorem names_nodup {nms : List Str} {A : Nat} {B : Int} (len : nms.length ≤ 26) (h : ∀ (i' : Nat) (s : Str), nms[i']? = some s → s.cps.toList[A]? = atI LET ((B + (i' : Int)) % 26)) : nms.Nodup := by
  refine List.pairwise_iff_getElem.mpr fun i j hi' hj hij e => ?_
  have hi : nms[i]? = some nms[i] := List.getElem?_eq_getElem hi'
  have hj2 : nms[j]? = some nms[i] := by rw [e]; exact List.getElem?_eq_getElem hj
  have a := h i _ hi
  have b := h j _ hj2
  rw [a] at b
  have := let_inj (Int.emod_nonneg _ (by decide)) (Int.emod_lt_of_pos _ (by decide)) (Int.emod_nonneg _ (by decide)) (Int.emod_lt_of_pos _ (by decide)) b
  omega
section
variable {P : Program} {w : World} {K : PySem.W.Frag} {mg : Str → Option Value} {base : Heap} {f : Addr} {fd : FuncData}
theorem ok_namesU (F : Fun K "_law_names" "_law_names" s_law_names f fd) (T : TxtL K mg) : FnOk P w K mg base CX0 1 f fd ["_law_cell", "_law_many"] spNamesU := by
  refine F.ok sc_law_names (fun vs H Q E h => ?_) (fun cdv A outer s H vs Q E hr h => ?_)
  · obtain ⟨c, m, rfl, _⟩ := h
    rfl
  obtain ⟨c, m, rfl, m0, m1, q⟩ := h
  have nd := sc_law_names.nd
  refine ⟨_, pss_cons (ps_set (i := 2) nd rfl (.inl rfl) pe_str)
    (pss_cons (ps_set (i := 3) nd rfl (.inl rfl) (pe_op op_add pe_int (pe_op op_mod (pv 0) pe_int)))
    (pss_cons (ps_set (i := 4) nd rfl (.inl rfl) (pe_op op_mod (pe_op op_fdiv (pv 0) pe_int) (pv 3)))
    (pss_cons (ps_set (i := 5) nd rfl (.inl rfl) (pe_lst pa_nil))
    (pss_cons (ps_for PassesOwn.never rfl (pi_range1 rfl T.range (pa_cons (pv 1) pa_nil)) (pg_name (i := 6) nd rfl (.inl rfl))
      (pss_cons (ps_set (i := 7) nd rfl (.inl rfl) pe_str)
      (pss_cons (ps_for PassesOwn.never rfl (pi_range1 rfl T.range (pa_cons (pv 3) pa_nil)) (pg_name (i := 8) nd rfl (.inl rfl))
        (pss_cons (ps_set (i := 9) nd rfl (.inl rfl) (pe_op op_add (pe_op op_mod (pe_op op_fdiv (pv 0) pe_int) pe_int) (pe_op op_mul pe_int (pv 8))))
        (pss_cons (ps_if (pt_cmpR op_eq (pv 8) (pv 4) (nomark _)) (pss_one (ps_set (i := 9) nd rfl (.inl rfl) (pe_op op_add (pv 9) (pv 6)))) pss_nil)
        (pss_one (ps_set (i := 7) nd rfl (.inl rfl) (pe_op op_add_str (pv 7) (pe_ix ix_str (pv 2) (pe_op op_mod (pv 9) pe_int) (fun _ _ => rfl))))))))
      (pss_one (ps_expr (pe_bm PySem.F.plainAttrs_list PySem.F.slot_list_append PySem.F.type_list_append mt_append (pv 5) (pa_cons (pv 7) pa_nil)))))))
    (pss_one (ps_ret (pv 5))))))), ?_⟩
  have hs0 : 0 ≤ c % 6 := Int.emod_nonneg _ (by decide)
  have hs1 : c % 6 < 6 := Int.emod_lt_of_pos _ (by decide)
  refine ⟨_, rfl, _, _, rfl, rfl, (by show (0 : Int) < 6; decide), _, _, rfl, rfl, ?_⟩
  refine ⟨_, rfl, _, _, rfl, rfl, ⟨by decide, by decide⟩, _, rfl, _, _, rfl, rfl, (by show 0 < 1 + c % 6; omega), ?_⟩
  refine ⟨(by show 0 ≤ sizeLine; decide), fun l hl => ?_⟩
  refine ⟨_, rfl, m, rfl, by omega, by omega, ?_⟩
  refine for_range (lo := 0) (n := m.toNat) (fun i σ H' => ∃ (nms : List Str) (v6 v7 v8 v9 : Option V), σ = [some (.int c), some (.int m), some (.str "abcdefghijklmnopqrstuvwxyz"), some (.int (1 + c % 6)), some (.int (c / 6 % (1 + c % 6))), some (.ref l), v6, v7, v8, v9] ∧
    Same H H' ∧ H' l = some (.lst (nms.map V.str)) ∧ nms.length = i ∧ (∀ s ∈ nms, NameOk s) ∧ ∀ (i' : Nat) (s : Str), nms[i']? = some s → s.cps.toList[(c / 6 % (1 + c % 6)).toNat]? = atI LET ((c / 36 % 26 + 5 * (c / 6 % (1 + c % 6)) + (i' : Int)) % 26)) ⟨[], none, none, none, none, rfl, same_new hl _, upd_same, rfl, (fun s hs => by cases hs), fun i' s h => by simp at h⟩ ?_ ?_
  · rintro i σ H1 hi ⟨nms, v6, v7, v8, v9, rfl, s1, e1, hlen, hok, hat⟩
    refine ⟨_, rfl, 1 + c % 6, rfl, by omega, by omega, ?_⟩
    refine for_range (lo := 0) (n := (1 + c % 6).toNat) (fun j σ H' => ∃ (z : Str) (v8 v9 : Option V), σ = [some (.int c), some (.int m), some (.str "abcdefghijklmnopqrstuvwxyz"), some (.int (1 + c % 6)), some (.int (c / 6 % (1 + c % 6))), some (.ref l), some (.int (0 + (i : Int))), some (.str z), v8, v9] ∧
      H' = H1 ∧ z.length = j ∧ (∀ x ∈ z.cps.toList, x ∈ LET) ∧ (c / 6 % (1 + c % 6) < (j : Int) → z.cps.toList[(c / 6 % (1 + c % 6)).toNat]? = atI LET ((c / 36 % 26 + 5 * (c / 6 % (1 + c % 6)) + (i : Int)) % 26))) ⟨Str.empty, _, _, rfl, rfl, rfl, (fun x hx => by cases hx), fun h => absurd h (by have := Int.emod_nonneg (c / 6) (show 1 + c % 6 ≠ 0 by omega); omega)⟩ ?_ ?_
    · rintro j σ H2 hj ⟨z, v8, v9, rfl, rfl, hz, hl', hza⟩
      have zl : z.cps.toList.length = z.length := by rw [Array.length_toList]; rfl
      have ap : ∀ ch : Nat, (z ++ sg1 ch).cps.toList = z.cps.toList ++ [ch] := fun ch => by show (z.cps ++ #[ch]).toList = _; rw [Array.toList_append]
      refine ⟨_, rfl, _, _, rfl, rfl, ⟨by decide, by decide⟩, _, _, rfl, rfl, (by show (0 : Int) < 26; decide), _, rfl, _, _, rfl, rfl, .inl ⟨by decide, by decide⟩, _, _, rfl, rfl, ?_⟩
      refine ⟨_, rfl, _, rfl, rfl, _, rfl, ?_⟩
      have hz6 : (j : Int) < 6 := by omega
      refine ite2 (fun hd => ?_) (fun hd => ?_)
      · refine ⟨_, rfl, _, rfl, _, _, rfl, rfl, ?_⟩
        obtain ⟨ch, hc, ec⟩ := let_at (n := (c / 36 % 26 + 5 * (0 + (j : Int)) + (0 + (i : Int))) % 26) (Int.emod_nonneg _ (by decide)) (Int.emod_lt_of_pos _ (by decide))
        refine ⟨_, rfl, _, rfl, _, rfl, _, _, rfl, rfl, (by show (0 : Int) < 26; decide), _, _, ch, rfl, rfl, (by decide +kernel), ec, z, sg1 ch, rfl, rfl, big (by rw [len_sg1]; omega), ?_⟩
        have ej : (0 + (j : Int)) = c / 6 % (1 + c % 6) := V.int.inj (of_decide_eq_true hd)
        refine ⟨z ++ sg1 ch, _, _, rfl, rfl, by rw [len_app, len_sg1, hz], mem_app1 hl' hc, fun _ => ?_⟩
        rw [ap, ← ej, List.getElem?_append_right (by rw [zl, hz]; omega), show ((0 + (j : Int)).toNat - z.cps.toList.length) = 0 by rw [zl, hz]; omega]
        show some ch = _
        rw [← ec]
        show atI LET _ = atI LET _
        rw [show (0 + (i : Int)) = (i : Int) by omega]
      · obtain ⟨ch, hc, ec⟩ := let_at (n := (c / 36 % 26 + 5 * (0 + (j : Int))) % 26) (Int.emod_nonneg _ (by decide)) (Int.emod_lt_of_pos _ (by decide))
        refine ⟨_, rfl, _, rfl, _, rfl, _, _, rfl, rfl, (by show (0 : Int) < 26; decide), _, _, ch, rfl, rfl, (by decide +kernel), ec, z, sg1 ch, rfl, rfl, big (by rw [len_sg1]; omega), ?_⟩
        have ej : (0 + (j : Int)) ≠ c / 6 % (1 + c % 6) := fun e => hd (decide_eq_true (by rw [e]))
        have a0 := Int.emod_nonneg (c / 6) (show 1 + c % 6 ≠ 0 by omega)
        refine ⟨z ++ sg1 ch, _, _, rfl, rfl, by rw [len_app, len_sg1, hz], mem_app1 hl' hc, fun h => ?_⟩
        rw [ap, List.getElem?_append_left (by rw [zl, hz]; omega)]
        exact hza (by omega)
    · rintro σ H2 ⟨z, v8, v9, rfl, rfl, hz, hl', hza⟩
      refine ⟨_, rfl, .inl ⟨rfl, _, SqL.of e1⟩, _, rfl, l, _, _, rfl, rfl, e1, small1000 (by rw [List.length_map]; omega), ?_⟩
      refine ⟨nms ++ [z], _, _, _, _, rfl, same_upd s1 hl _, (by rw [upd_same, List.map_append]; rfl), by rw [List.length_append, List.length_singleton, hlen], fun s hs => ?_, fun i' s hs => ?_⟩
      · rcases List.mem_append.mp hs with q | q
        · exact hok s q
        · rw [List.mem_singleton.mp q]
          exact nameOk_of (by omega) (by omega) hl'
      · by_cases lt : i' < nms.length
        · rw [List.getElem?_append_left lt] at hs
          exact hat i' s hs
        · rw [List.getElem?_append_right (by omega)] at hs
          have e0 : i' = nms.length := by
            have := (List.getElem?_eq_some_iff.mp hs).1
            simp at this
            omega
          subst e0
          rw [Nat.sub_self] at hs
          cases hs
          rw [hlen]
          refine hza ?_
          have a1 := Int.emod_lt_of_pos (c / 6) (show 0 < 1 + c % 6 by omega)
          omega
  · rintro σ H1 ⟨nms, v6, v7, v8, v9, rfl, s1, e1, hlen, hok, hat⟩
    exact ⟨_, rfl, q l H1 nms s1 hl e1 (by omega) hok (names_nodup (by omega) hat)⟩
end
end Aw

namespace Aw
open PySem L2
/-! ### k32: the law -/
def spLaw (K : PySem.W.Frag) : Sp := fun vs H Q _ => ∃ (a : Addr) (ns : List Int), vs = [.ref a] ∧ SqL K H a (ns.map V.int) ∧ ns.length ≤ 63 ∧ ∀ H', Q (.bl true) H'
structure TxB32 (mg : Str → Option Value) : Prop where
  str : mg "str" = none
  int : mg "int" = none
theorem cut_last {l : List V} {y : V} : cutV (l ++ [y]) none (some (-1)) = l := by
  unfold cutV HT.sIx
  dsimp only
  have e : ((-1 : Int) + (((l ++ [y]).length : Nat) : Int)).toNat = l.length := by
    rw [List.length_append]
    show ((-1 : Int) + ((l.length + 1 : Nat) : Int)).toNat = _
    omega
  rw [if_pos (by decide), e, Nat.sub_zero, List.drop_zero]
  exact List.take_left
theorem at_end {l : List V} {y : V} : atI (l ++ [y]) (-1) = some y := by
  have e : ixN (l ++ [y]).length (-1) = some l.length := by
    unfold ixN
    rw [if_neg (by decide), List.length_append]
    show (if _ then some (((-1 : Int) + ((l.length + 1 : Nat) : Int)).toNat) else none) = _
    rw [if_pos (by show -(((l.length + 1 : Nat) : Int)) ≤ -1; omega)]
    congr 1
    omega
  unfold atI
  rw [e]
  simp
theorem pick2 {a b d : Str} : atI [V.str a, V.str b] (if decide (V.str d = V.str "done") = true then 1 else 0) = some (.str (if d = "done" then b else a)) := by
  by_cases c : d = "done"
  · rw [if_pos c, if_pos (decide_eq_true (by rw [c]))]
    rfl
  · rw [if_neg c, if_neg (fun w => c (V.str.inj (of_decide_eq_true w)))]
    rfl
theorem tx_fig : ∀ n : Nat, n < 31 → figM (tx (n : Int)) = true ∧ numF (tx (n : Int)).cps.toList = (n : Int) := by decide +kernel
section
variable {P : Program} {w : World} {K : PySem.W.Frag} {mg : Str → Option Value} {base : Heap} {f : Addr} {fd : FuncData} {C : HC} {NN NB N NF NR : Addr}
set_option maxHeartbeats 0 in
theorem ok_law32 {f1 f2 f3 f4 f5 f6 m1 m2 : Addr} {d1 d2 d3 d4 d5 d6 e1 e2 : FuncData} (F : Fun K "law" "law" s_law f fd) (TL : TxtL K mg) (TH : TxtH K mg C) (TB : TxB32 mg)
    (Ce : DfQ P w K mg base CX0 1 "_law_cell_at" ["_law_script", "_law_k"] (spCell K) f1 d1) (Nm' : DfQ P w K mg base CX0 1 "_law_names" ["_law_cell", "_law_many"] spNamesU f2 d2)
    (Ro : DfQ P w K mg base CX0 1 "_law_row" ["_law_cell", "_law_name"] spRow32 f3 d3) (Ki : DfQ P w K mg base CX0 31 "_law_kind" ["_law_rows"] (spKind32 C) f4 d4) (Op : DfQ P w K mg base (L2.CX P w) 30 "opened" ["rows"] (spOpened C NN NB N NF NR K) f5 d5) (Wl : DfQ P w K mg base CX0 1 "_law_wells" ["_law_rows"] spWells32 f6 d6)
    (We : HmQ P w K mg base CX0 C.h 1 "wells" ["self"] (spWellsH C) m1 e1) (Wo : HmQ P w K mg base CX0 C.h 6 "works" ["self"] (spWorksH C) m2 e2) :
    FnOk P w K mg base CX0 32 f fd ["_law_script"] (spLaw K) := by
  refine F.ok sc_law (fun vs H Q E h => ?_) (fun cdv A00 outer s H vs Q E hr h => ?_)
  · obtain ⟨a, ns, rfl, _⟩ := h
    rfl
  obtain ⟨a, ns, rfl, hS, h63, q⟩ := h
  have nd := sc_law.nd
  have hr1 : Room 1 _ := hr.mono (by decide)
  have hr6 : Room 6 _ := hr.mono (by decide)
  have hr30 : Room 30 _ := hr.mono (by decide)
  refine ⟨_, pss_cons (ps_set (i := 1) nd rfl (.inr rfl) (pe_call Nm'.ok hr1 rfl Nm'.m Nm'.k Nm'.b .nil pass0 (pa_cons (pe_call Ce.ok hr1 rfl Ce.m Ce.k Ce.b .nil pass0 (pa_cons (pv 0) (pa_cons pe_int pa_nil))) (pa_cons pe_int pa_nil))))
    (pss_cons (ps_set (i := 2) nd rfl (.inl rfl) (pe_op op_mod (pe_call Ce.ok hr1 rfl Ce.m Ce.k Ce.b .nil pass0 (pa_cons (pv 0) (pa_cons pe_int pa_nil))) pe_int))
    (pss_cons (ps_setLc (i := 3) (own := [("_law_k", 14)]) (g := gName 14) rfl nd rfl rfl (sw_true rfl rfl rfl (by decide +kernel)) (pi_range1 rfl TL.range (pa_cons (pv 2) pa_nil)) (blkOk_by (N := ["_law_script", "_law_names_here", "_law_many", "_law_rows", "_law_is_new", "_law_name", "_law_row_here", "_law_due", "_law_given", "_law_second", "_law_later", "_law_ahead", "_law_found", "_law_wells_here", "_law_k"]) (sc := defScope s_law) (by decide +kernel))
      (fun _ _ _ _ _ => pg_name (i := 14) nd rfl (.inl rfl)) (fun _ _ _ _ _ => pts_nil) (fun _ _ _ _ _ => pe_op op_add_str (pe_op op_add_str (pe_op op_add_str pe_str (pe_ix (show IxR _ (rIxL K) from ix_list) (pv 1) (pv 14) (fun _ _ => rfl))) pe_str) (pe_callTy call_str_int (by rfl) TB.str (by decide +kernel) (pa_cons (pe_op op_mod (pe_op op_add (pe_call Ce.ok hr1 rfl Ce.m Ce.k Ce.b .nil pass0 (pa_cons (pv 0) (pa_cons pe_int pa_nil))) (pv 14)) pe_int) pa_nil))))
    (pss_cons (ps_set (i := 4) nd rfl (.inl rfl) (pe_cmpR op_eq (pe_op op_mod (pe_call Ce.ok hr1 rfl Ce.m Ce.k Ce.b .nil pass0 (pa_cons (pv 0) (pa_cons pe_int pa_nil))) pe_int) pe_int (nomark _)))
    (pss_cons (ps_set (i := 5) nd rfl (.inl rfl) (pe_ix ix_list (pv 1) pe_int (fun _ _ => rfl)))
    (C8.pss_cut (ps_if (pt_val (pv 4)) (pss_one (ps_set (i := 5) nd rfl (.inl rfl) (pe_ix ix_list (pv 1) pe_int (fun _ _ => rfl)))) pss_nil)
    (pss_cons (ps_set (i := 6) nd rfl (.inl rfl) (pe_call Ro.ok hr1 rfl Ro.m Ro.k Ro.b .nil pass0 (pa_cons (pe_call Ce.ok hr1 rfl Ce.m Ce.k Ce.b .nil pass0 (pa_cons (pv 0) (pa_cons pe_int pa_nil))) (pa_cons (pv 5) pa_nil))))
    (pss_cons (ps_set (i := 7) nd rfl (.inl rfl) (pe_ix ix_tup (pv 6) pe_int (fun _ _ => rfl)))
    (C8.pss_cut (ps_if (PW.pt (pw_and (pt_cmpR op_eq (pv 7) pe_str (nomark _)) (pw_and (pt_cmpR op_eq (pv 2) pe_int (nomark _)) (pw_and1 (pt_val (pv 4)))))) (pss_one (ps_set (i := 7) nd rfl (.inl rfl) pe_str)) pss_nil)
    (pss_cons (ps_set (i := 8) nd rfl (.inl rfl) (pe_op op_cat (pv 3) (pe_lst (pa_cons (pe_ix ix_tup (pv 6) pe_int (fun _ _ => rfl)) pa_nil))))
    (C8.pss_cut (ps_if (PW.pt (pw_and (pt_cmpR (op_neE hr.units) (pv 3) (pe_lst pa_nil) (nomark _)) (pw_and (pt_cmpR op_eq (pe_op op_mod (pe_call Ce.ok hr1 rfl Ce.m Ce.k Ce.b .nil pass0 (pa_cons (pv 0) (pa_cons pe_int pa_nil))) pe_int) pe_int (nomark _)) (pw_and (pt_cmpR op_ne (pv 7) pe_str (nomark _)) (pw_and1 (PW.pt (pw_or (pt_cmpR op_ne (pv 7) pe_str (nomark _)) (pw_or1 (pt_not (pt_val (pv 4))))))))))) (pss_one (ps_set (i := 8) nd rfl (.inl rfl) (pe_op op_cat (pe_slice sl_list (pv 3) po_none (po_some (pe_un un_neg pe_int))) (pe_lst (pa_cons (pe_ix ix_tup (pv 6) pe_int (fun _ _ => rfl)) (pa_cons (pe_ix ix_list (pv 3) (pe_un un_neg pe_int) (fun _ _ => rfl)) pa_nil)))))) pss_nil)
    (pss_cons (ps_if (pt_cmpR op_ne (pe_call Ki.ok hr rfl Ki.m Ki.k Ki.b .nil pass0 (pa_cons (pv 8) pa_nil)) (pv 7) (nomark _)) (pss_one (ps_ret pe_bl)) pss_nil)
    (pss_cons (ps_set (i := 9) nd rfl (.inl rfl) (pe_call Ro.ok hr1 rfl Ro.m Ro.k Ro.b .nil pass0 (pa_cons (pe_call Ce.ok hr1 rfl Ce.m Ce.k Ce.b .nil pass0 (pa_cons (pv 0) (pa_cons pe_int pa_nil))) (pa_cons (pe_ix ix_list (pv 1) pe_int (fun _ _ => rfl)) pa_nil))))
    (pss_cons (ps_set (i := 10) nd rfl (.inl rfl) (pe_ix ix_list (pe_lst (pa_cons (pv 7) (pa_cons (pe_ix ix_tup (pv 9) pe_int (fun _ _ => rfl)) pa_nil))) (pe_callTy call_int1 (by rfl) TB.int (by decide +kernel) (pa_cons (pe_cmpR op_eq (pv 7) pe_str (nomark _)) pa_nil)) (fun _ _ => rfl)))
    (pss_cons (ps_set (i := 11) nd rfl (.inl rfl) (pe_ix ix_list (pe_lst (pa_cons (pe_ix ix_tup (pv 9) pe_int (fun _ _ => rfl)) (pa_cons (pv 7) pa_nil))) (pe_callTy call_int1 (by rfl) TB.int (by decide +kernel) (pa_cons (pe_cmpR op_eq (pe_ix ix_tup (pv 9) pe_int (fun _ _ => rfl)) pe_str (nomark _)) pa_nil)) (fun _ _ => rfl)))
    (pss_cons (ps_if (PW.pt (pw_or (pt_cmpR op_ne (pe_call Ki.ok hr rfl Ki.m Ki.k Ki.b .nil pass0 (pa_cons (pe_op op_cat (pv 8) (pe_lst (pa_cons (pe_ix ix_tup (pv 9) pe_int (fun _ _ => rfl)) pa_nil))) pa_nil)) (pv 10) (nomark _)) (pw_or1 (pt_cmpR op_ne (pe_call Ki.ok hr rfl Ki.m Ki.k Ki.b .nil pass0 (pa_cons (pe_op op_cat (pe_lst (pa_cons (pe_ix ix_tup (pv 9) pe_int (fun _ _ => rfl)) pa_nil)) (pv 8)) pa_nil)) (pv 11) (nomark _))))) (pss_one (ps_ret pe_bl)) pss_nil)
    (pss_cons (ps_if (pt_cmpR op_ne (pv 7) pe_str (nomark _)) (pss_one (ps_ret pe_bl)) pss_nil)
    (pss_cons (ps_set (i := 12) nd rfl (.inl rfl) (pe_call (E := E0) Op.ok hr30 rfl Op.m Op.k Op.b .nil passL (pa_cons (pv 8) pa_nil)))
    (pss_cons (ps_set (i := 13) nd rfl (.inl rfl) (pe_call Wl.ok hr1 rfl Wl.m Wl.k Wl.b .nil pass0 (pa_cons (pv 8) pa_nil)))
    (pss_cons (ps_if (pt_cmpR (op_ne_dictL (Room.units0 hr)) (pe_meth0 (pv 12) TH.cl We.m We.ok hr1 We.b .nil pass0) (pv 13) (nomark _)) (pss_one (ps_ret pe_bl)) pss_nil)
    (pss_one (ps_ret (pe_cmpR op_eq (pe_op op_add (pe_callB call_lenD (by rfl) TL.len PySem.boot_len (pa_cons (pv 13) pa_nil)) (pe_callB call_lenD (by rfl) TL.len PySem.boot_len (pa_cons (pe_meth0 (pv 12) TH.cl Wo.m Wo.ok hr6 Wo.b .nil pass0) pa_nil)))
      (pe_op op_add (pe_callB call_len_seq (by rfl) TL.len PySem.boot_len (pa_cons (pv 3) pa_nil)) (pe_callTy call_int1 (by rfl) TB.int (by decide +kernel) (pa_cons (pe_or (pv 4) (pe_one (pe_cmpR op_eq (pv 2) pe_int (nomark _)))) pa_nil))) (nomark _))))))))))))))))))))))), ?_⟩
  refine ⟨_, rfl, a, ns, 0, rfl, hS, h63, fun c0 => ?_⟩
  refine ⟨c0, 12, rfl, by decide, by decide, fun nl H1 nms s1 hl el hlen hok hnd => ?_⟩
  have hS1 := s1.seq hS
  have l12 : nms.length = 12 := by omega
  refine ⟨_, rfl, a, ns, 1, rfl, hS1, h63, fun c1 => ?_⟩
  obtain ⟨m, hm, m10⟩ : ∃ m : Nat, c1 % 11 = ((m : Nat) : Int) ∧ m ≤ 10 := by
    have m0 : 0 ≤ c1 % 11 := Int.emod_nonneg _ (by decide)
    have m9 : c1 % 11 < 11 := Int.emod_lt_of_pos _ (by decide)
    exact ⟨(c1 % 11).toNat, by omega, by omega⟩
  refine ⟨_, _, rfl, rfl, (by show (0 : Int) < 11; decide), ?_⟩
  dsimp only
  rw [hm]
  refine ⟨_, rfl, _, rfl, by omega, Int.lt_of_le_of_lt (by omega : ((m : Nat) : Int) ≤ 10) (by decide), fun R hR => ?_⟩
  have n0R : nl ≠ R := ne_of_none el hR
  refine lc_range (lo := 0) (n := (((m : Nat) : Int)).toNat) (fun i H' => Same H1 H' ∧ ∃ ps : List (Str × Gr), H' R = some (.lst ((rowsG ps).map V.str)) ∧ ps.map (fun p => p.2.z) = nms.take i ∧ ∀ p ∈ ps, Good p.1 p.2) ⟨same_new hR _, [], upd_same, by simp, fun p hp => by cases hp⟩ ?_ ?_
  · rintro i H' hi ⟨s', ps, eR, hz, hg⟩
    have hi' : i < m := by simpa using hi
    have il : i < nms.length := by omega
    obtain ⟨zk, hzk⟩ : ∃ zk, nms[i]? = some zk := ⟨_, List.getElem?_eq_getElem il⟩
    have okz := hok zk (List.mem_of_getElem? hzk)
    have z6 : zk.length ≤ 6 := by
      have ok : nameM zk = true := okz
      unfold nameM at ok
      exact (of_decide_eq_true (Bool.and_eq_true_iff.mp ok).1).2
    have hat : atI (nms.map V.str) ((0 : Int) + ((i : Nat) : Int)) = some (.str zk) := by
      rw [Int.zero_add]
      exact atI_nat (by rw [List.getElem?_map, hzk]; rfl)
    refine ⟨rfl, ?_⟩
    refine ⟨_, rfl, _, rfl, nl, _, _, .str zk, rfl, rfl, SqL.of (s' _ _ el), hat, _, _, rfl, rfl, big (by show 5 + zk.length ≤ _; omega), _, _, rfl, rfl, big (by rw [len_app]; show 5 + zk.length + 1 ≤ _; omega), _, rfl, a, ns, 4, rfl, s'.seq hS1, h63, fun c4 => ?_⟩
    refine ⟨_, rfl, _, _, rfl, rfl, _, _, rfl, rfl, (by show (0 : Int) < 31; decide), ?_⟩
    dsimp only
    obtain ⟨v, hv, v31⟩ : ∃ v : Nat, (c4 + (0 + ((i : Nat) : Int))) % 31 = ((v : Nat) : Int) ∧ v < 31 := by
      have m0 : 0 ≤ (c4 + (0 + ((i : Nat) : Int))) % 31 := Int.emod_nonneg _ (by decide)
      have m9 : (c4 + (0 + ((i : Nat) : Int))) % 31 < 31 := Int.emod_lt_of_pos _ (by decide)
      exact ⟨((c4 + (0 + ((i : Nat) : Int))) % 31).toNat, by omega, by omega⟩
    rw [hv]
    obtain ⟨f1, f2⟩ := tx_fig v v31
    have l2 : (tx ((v : Nat) : Int)).length ≤ 2 := (of_decide_eq_true (Bool.and_eq_true_iff.mp f1).1).2
    refine ⟨_, rfl, small_tx (by omega) (by omega), _, _, rfl, rfl, big (by rw [len_app, len_app]; show 5 + zk.length + 1 + (tx ((v : Nat) : Int)).length ≤ _; omega), ?_⟩
    have lz : ps.length = i := by
      have := congrArg List.length hz
      rw [List.length_map, List.length_take] at this
      omega
    refine ⟨_, eR, (by rw [List.length_map]; unfold rowsG; rw [List.length_map]; exact Nat.lt_of_le_of_lt (by omega : ps.length ≤ 10) (by decide)), same_upd s' hR _, ps ++ [("well " ++ zk ++ " " ++ tx ((v : Nat) : Int), Gr.w zk ((v : Nat) : Int))], ?_, ?_, fun p hp => ?_⟩
    · rw [upd_same]
      unfold rowsG
      rw [List.map_append, List.map_append]
      rfl
    · rw [List.map_append, hz, take_more hzk]
      rfl
    · rcases List.mem_append.mp hp with w | w
      · exact hg p w
      · rw [List.mem_singleton.mp w]
        refine good_well (x := tx ((v : Nat) : Int)) ?_ okz f1 f2 (by omega)
        show (("well " : Str) ++ zk ++ " " ++ tx ((v : Nat) : Int)).cps.toList = _
        rw [cps_app, cps_app, cps_app, show ("well " : Str).cps.toList = ("well" : Str).cps.toList ++ [32] by decide +kernel, e_bl]
        simp
  · rintro H2 ⟨s2, ps0, eR, hz0, hg⟩
    have lz : ps0.length = m := by
      have := congrArg List.length hz0
      rw [List.length_map, List.length_take] at this
      have e : (((m : Nat) : Int)).toNat = m := by simp
      rw [e] at this
      omega
    have hz0 : ps0.map (fun p => p.2.z) = nms.take m := by rw [hz0]; simp
    have hS2 := s2.seq hS1
    have el2 := s2 _ _ el
    obtain ⟨n0, e0⟩ : ∃ n0, nms[0]? = some n0 := ⟨_, List.getElem?_eq_getElem (by omega)⟩
    obtain ⟨n11, e11⟩ : ∃ n11, nms[11]? = some n11 := ⟨_, List.getElem?_eq_getElem (by omega)⟩
    have at0 : atI (nms.map V.str) 0 = some (.str n0) := (show atI (nms.map V.str) ((0 : Nat) : Int) = _ from atI_nat (by rw [List.getElem?_map, e0]; rfl))
    have at11 : atI (nms.map V.str) 11 = some (.str n11) := (show atI (nms.map V.str) ((11 : Nat) : Int) = _ from atI_nat (by rw [List.getElem?_map, e11]; rfl))
    refine ⟨_, rfl, a, ns, 3, rfl, hS2, h63, fun c3 => ?_⟩
    refine ⟨_, _, rfl, rfl, (by show (0 : Int) < 2; decide), rfl, ?_⟩
    dsimp only
    generalize decide (V.int (c3 % 2) = V.int 1) = new
    refine ⟨_, rfl, nl, _, _, .str n0, rfl, rfl, SqL.of el2, at0, ?_⟩
    refine ⟨fun σ H' => ∃ name, σ = [some (.ref a), some (.ref nl), some (.int ((m : Nat) : Int)), some (.ref R), some (.bl new), some (.str name), none, none, none, none, none, none, none, none, none] ∧ H' = H2 ∧ nms[if new = true then 11 else 0]? = some name, ?_, ?_⟩
    · refine ⟨_, rfl, new, rfl, ite2 (fun c => ?_) (fun c => ?_)⟩
      · exact ⟨_, rfl, nl, _, _, .str n11, rfl, rfl, SqL.of el2, at11, n11, rfl, rfl, by rw [if_pos c]; exact e11⟩
      · exact ⟨n0, rfl, rfl, by rw [if_neg c]; exact e0⟩
    rintro σ H2' ⟨name, rfl, rfl, en⟩
    have okn := hok name (List.mem_of_getElem? en)
    have ok0 := hok n0 (List.mem_of_getElem? e0)
    have six : ∀ {z : Str}, NameOk z → z.length ≤ 20 := fun {z} h => by
      have ok : nameM z = true := h
      unfold nameM at ok
      have := (of_decide_eq_true (Bool.and_eq_true_iff.mp ok).1).2
      omega
    refine ⟨_, rfl, a, ns, 2, rfl, hS2, h63, fun c2 => ⟨_, rfl, c2, name, rfl, six okn, fun ta H3 p s3 eta hp => ?_⟩⟩
    refine ⟨_, rfl, ta, _, _, .str p.2, rfl, rfl, SqT.of eta, rfl, ?_⟩
    refine ⟨fun σ H' => σ = [some (.ref a), some (.ref nl), some (.int ((m : Nat) : Int)), some (.ref R), some (.bl new), some (.str name), some (.ref ta), some (.str (due32 p.2 m new)), none, none, none, none, none, none, none] ∧ H' = H3, ?_, ?_⟩
    · refine ⟨_, rfl, rfl, _, rfl, ite2 (fun c1 => ?_) (fun c1 => ?_)⟩
      · have d1 : p.2 = "done" := V.str.inj (of_decide_eq_true c1)
        refine ⟨_, rfl, rfl, _, rfl, ite2 (fun c2 => ?_) (fun c2 => ?_)⟩
        · have d2 : m = 10 := by have := V.int.inj (of_decide_eq_true c2); omega
          refine ⟨_, rfl, new, rfl, ite2 (fun c3 => ?_) (fun c3 => ?_)⟩
          · exact ⟨by unfold due32; rw [if_pos ⟨d1, d2, c3⟩]; rfl, rfl⟩
          · exact ⟨by unfold due32; rw [if_neg (fun w => c3 w.2.2)]; rfl, rfl⟩
        · have d2 : ¬ m = 10 := fun w => c2 (decide_eq_true (by rw [w]; rfl))
          exact iteF ⟨by unfold due32; rw [if_neg (fun w => d2 w.2.1)]; rfl, rfl⟩
      · have d1 : ¬ p.2 = "done" := fun w => c1 (decide_eq_true (by rw [w]))
        exact iteF ⟨by unfold due32; rw [if_neg (fun w => d1 w.1)]; rfl, rfl⟩
    rintro σ H3' ⟨rfl, rfl⟩
    have el3 := s3 _ _ el2
    have eR3 := s3 _ _ eR
    have hS3 := s3.seq hS2
    refine ⟨_, rfl, _, rfl, ta, _, _, .str p.1, rfl, rfl, SqT.of eta, rfl, (by show 1 ≤ sizeLine; decide), fun l1 hl1 => ?_⟩
    have lR : ((rowsG ps0).map V.str).length = m := by rw [List.length_map]; unfold rowsG; rw [List.length_map]; exact lz
    have s4 := same_new hl1 (.lst [V.str p.1])
    refine ⟨R, l1, _, _, rfl, rfl, s4 _ _ eR3, upd_same, (by rw [lR]; show m + 1 ≤ sizeLine; exact big (by omega)), fun l2 hl2 => ?_⟩
    have s5 := same_new hl2 (.lst ((rowsG ps0).map V.str ++ [V.str p.1]))
    have s35 := s4.trans s5
    have e5 : (upd (upd H3' l1 (.lst [V.str p.1])) l2 (.lst ((rowsG ps0).map V.str ++ [V.str p.1]))) l2 = some (.lst ((rowsG ps0).map V.str ++ [V.str p.1])) := upd_same
    revert s35 e5
    generalize upd (upd H3' l1 (.lst [V.str p.1])) l2 (.lst ((rowsG ps0).map V.str ++ [V.str p.1])) = H5
    intro s35 e5
    refine ⟨fun σ H' => ∃ (g : Addr) (pa pb : List (Str × Gr)), σ = [some (.ref a), some (.ref nl), some (.int ((m : Nat) : Int)), some (.ref R), some (.bl new), some (.str name), some (.ref ta), some (.str (due32 p.2 m new)), some (.ref g), none, none, none, none, none, none] ∧ Same H5 H' ∧ H' g = some (.lst ((rowsG pa ++ p.1 :: rowsG pb).map V.str)) ∧ pa ++ pb = ps0 ∧ (pb = [] ∨ ¬ due32 p.2 m new = "full"), ?_, ?_⟩
    · have done : ∀ H', Same H5 H' → ∃ (g : Addr) (pa pb : List (Str × Gr)), [some (V.ref a), some (.ref nl), some (.int ((m : Nat) : Int)), some (.ref R), some (.bl new), some (.str name), some (.ref ta), some (.str (due32 p.2 m new)), some (.ref l2), none, none, none, none, none, none] = [some (V.ref a), some (.ref nl), some (.int ((m : Nat) : Int)), some (.ref R), some (.bl new), some (.str name), some (.ref ta), some (.str (due32 p.2 m new)), some (.ref g), none, none, none, none, none, none] ∧ Same H5 H' ∧ H' g = some (.lst ((rowsG pa ++ p.1 :: rowsG pb).map V.str)) ∧ pa ++ pb = ps0 ∧ (pb = [] ∨ ¬ due32 p.2 m new = "full") := fun H' s => ⟨l2, ps0, [], rfl, s, by rw [s _ _ e5, List.map_append]; rfl, List.append_nil _, .inl rfl⟩
      refine ⟨_, rfl, (by show 0 ≤ sizeLine; decide), fun n1 hn1 => ?_⟩
      have s6 := same_new hn1 (.lst [])
      refine ⟨R, n1, _, rfl, rfl, SqL.of (s6 _ _ (s35 _ _ eR3)), SqL.of upd_same, fun e => ⟨_, rfl, iteF (iteF (done _ s6))⟩, fun ne => ⟨_, rfl, iteT ?_⟩⟩
      refine ⟨_, rfl, a, ns, 5, rfl, s6.seq (s35.seq hS3), h63, fun c5 => ?_⟩
      refine ⟨_, _, rfl, rfl, (by show (0 : Int) < 2; decide), rfl, _, rfl, ite2 (fun _ => ?_) (fun _ => iteF (done _ s6))⟩
      refine ⟨_, rfl, rfl, _, rfl, ite2 (fun cf => ?_) (fun _ => iteF (done _ s6))⟩
      have nf : ¬ due32 p.2 m new = "full" := fun w => by
        rw [w] at cf
        exact absurd cf (by decide +kernel)
      have go : ∃ (g : Addr) (pa pb : List (Str × Gr)), True := ⟨l2, [], [], trivial⟩
      have ne0 : ps0 ≠ [] := fun w => ne (by rw [w]; rfl)
      obtain ⟨pz, lst, hpz⟩ : ∃ pz lst, ps0 = pz ++ [lst] := ⟨ps0.dropLast, ps0.getLast ne0, (List.dropLast_concat_getLast ne0).symm⟩
      have eRz : (rowsG ps0).map V.str = (rowsG pz).map V.str ++ [V.str lst.1] := by rw [hpz]; unfold rowsG; rw [List.map_append, List.map_append]; rfl
      have eR6 := s6 _ _ (s35 _ _ eR3)
      have ta6 := s6 _ _ (s35 _ _ eta)
      rw [eRz] at eR6
      revert s6 eR6 ta6
      generalize upd H5 n1 (.lst []) = H6
      intro s6 eR6 ta6
      have lz2 : ((rowsG pz).map V.str).length ≤ 10 := by
        rw [eRz, List.length_append] at lR
        have : [V.str lst.1].length = 1 := rfl
        omega
      refine ⟨_, rfl, rfl, _, rfl, ite2 (fun _ => iteT ?_) (fun _ => ⟨_, rfl, new, rfl, ite2 (fun _ => ?_) (fun _ => done _ s6)⟩)⟩
      all_goals
        refine ⟨_, rfl, 1, rfl, -1, rfl, R, _, rfl, SqL.of eR6, fun l7 hl7 => ?_⟩
        rw [show cutV ((rowsG pz).map V.str ++ [V.str lst.1]) none (some (-1)) = (rowsG pz).map V.str from cut_last]
        have s7 := same_new hl7 (.lst ((rowsG pz).map V.str))
        have e7 : (upd H6 l7 (.lst ((rowsG pz).map V.str))) l7 = some (.lst ((rowsG pz).map V.str)) := upd_same
        revert s7 e7
        generalize upd H6 l7 (.lst ((rowsG pz).map V.str)) = H7
        intro s7 e7
        refine ⟨_, rfl, ta, _, _, .str p.1, rfl, rfl, SqT.of (s7 _ _ ta6), rfl, _, rfl, 1, rfl, R, _, _, .str lst.1, rfl, rfl, SqL.of (s7 _ _ eR6), at_end, (by show 2 ≤ sizeLine; decide), fun l8 hl8 => ?_⟩
        have s8 := same_new hl8 (.lst [V.str p.1, V.str lst.1])
        refine ⟨l7, l8, _, _, rfl, rfl, s8 _ _ e7, upd_same, Nat.le_trans (show ((rowsG pz).map V.str).length + 2 ≤ 12 by omega) (by decide), fun l9 hl9 => ?_⟩
        have s9 := same_new hl9 (.lst ((rowsG pz).map V.str ++ [V.str p.1, V.str lst.1]))
        refine ⟨l9, pz, [lst], rfl, ((s6.trans s7).trans s8).trans s9, ?_, hpz.symm, .inr nf⟩
        rw [upd_same, List.map_append]
        rfl
    rintro σ H6 ⟨g, pa, pb, rfl, s6, eg, hab, hb⟩
    have s36 := s35.trans s6
    have el6 := s36 _ _ el3
    have eR6 := s36 _ _ eR3
    have hS6 := s36.seq hS3
    have lab : pa.length + pb.length = m := by rw [← List.length_append, hab]; exact lz
    have lrows : (rowsG pa ++ p.1 :: rowsG pb).length ≤ 11 := by rw [List.length_append, List.length_cons]; unfold rowsG; rw [List.length_map, List.length_map]; omega
    have hp60 : p.1.length ≤ 60 := by
      rcases row_mean okn p hp with ⟨e, _, b⟩ | ⟨_, g, _, b⟩
      · exact b.len
      · exact b.len
    have all60 : ∀ x ∈ rowsG pa ++ p.1 :: rowsG pb, x.length ≤ 1000 := fun x hx => by
      have inps : ∀ y ∈ ps0, y.1.length ≤ 1000 := fun y hy => Nat.le_trans (hg y hy).len (by decide)
      rcases List.mem_append.mp hx with w | w
      · obtain ⟨y, hy, rfl⟩ := List.mem_map.mp w
        exact inps y (by rw [← hab]; exact List.mem_append_left _ hy)
      · rcases List.mem_cons.mp w with w | w
        · rw [w]; omega
        · obtain ⟨y, hy, rfl⟩ := List.mem_map.mp w
          exact inps y (by rw [← hab]; exact List.mem_append_right _ hy)
    obtain ⟨k1, _, _, k4⟩ := kind_all l12 hnd hok m10 hz0 hg e0 en hp (q := ("well " ++ n0 ++ " 7", "done")) List.mem_cons_self hab hb
    refine ⟨_, rfl, g, _, rfl, eg, by omega, all60, fun H7 s7 => ?_⟩
    rw [k1]
    refine ⟨_, rfl, rfl, _, rfl, ?_⟩
    rw [show (!decide (V.str (due32 p.2 m new) = V.str (due32 p.2 m new))) = false by simp]
    refine iteF ?_
    refine ⟨_, rfl, a, ns, 6, rfl, s7.seq hS6, h63, fun c6 => ⟨_, rfl, nl, _, _, .str n0, rfl, rfl, SqL.of (s7 _ _ el6), at0, c6, n0, rfl, six ok0, fun tb H8 r s8 etb hr' => ?_⟩⟩
    obtain ⟨_, k2, k3, _⟩ := kind_all l12 hnd hok m10 hz0 hg e0 en hp hr' hab hb
    have hr60 : r.1.length ≤ 60 := by
      rcases row_mean ok0 r hr' with ⟨e, _, b⟩ | ⟨_, g, _, b⟩
      · exact b.len
      · exact b.len
    have s78 := s7.trans s8
    have eg8 := s78 _ _ eg
    have eR8 := s78 _ _ eR6
    -- what is due later, and ahead
    refine ⟨_, rfl, _, rfl, tb, _, _, .str r.2, rfl, rfl, SqT.of etb, rfl, (by show 2 ≤ sizeLine; decide), fun l9 hl9 => ?_⟩
    have s9 := same_new hl9 (.lst [V.str (due32 p.2 m new), V.str r.2])
    refine ⟨_, rfl, rfl, .inr ⟨_, rfl, l9, _, _, _, rfl, rfl, SqL.of upd_same, pick2, ?_⟩⟩
    refine ⟨_, rfl, tb, _, _, .str r.2, rfl, rfl, SqT.of (s9 _ _ etb), rfl, _, rfl, (by show 2 ≤ sizeLine; decide), fun l10 hl10 => ?_⟩
    have s10 := same_new hl10 (.lst [V.str r.2, V.str (due32 p.2 m new)])
    refine ⟨_, rfl, tb, _, _, .str r.2, rfl, rfl, SqT.of (s10 _ _ (s9 _ _ etb)), rfl, rfl, .inr ⟨_, rfl, l10, _, _, _, rfl, rfl, SqL.of upd_same, pick2, ?_⟩⟩
    have s910 := s9.trans s10
    revert s910
    generalize upd (upd H8 l9 (.lst [V.str (due32 p.2 m new), V.str r.2])) l10 (.lst [V.str r.2, V.str (due32 p.2 m new)]) = H10
    intro s910
    have eg10 := s910 _ _ eg8
    have etb10 := s910 _ _ etb
    refine ⟨_, rfl, _, rfl, tb, _, _, .str r.1, rfl, rfl, SqT.of etb10, rfl, (by show 1 ≤ sizeLine; decide), fun l11 hl11 => ?_⟩
    have s11 := same_new hl11 (.lst [V.str r.1])
    have lm11 : ((rowsG pa ++ p.1 :: rowsG pb).map V.str).length ≤ 11 := by rw [List.length_map]; exact lrows
    refine ⟨g, l11, _, _, rfl, rfl, s11 _ _ eg10, upd_same, Nat.le_trans (show ((rowsG pa ++ p.1 :: rowsG pb).map V.str).length + 1 ≤ 12 by omega) (by decide), fun l12' hl12 => ?_⟩
    have s12 := same_new hl12 (.lst ((rowsG pa ++ p.1 :: rowsG pb).map V.str ++ [V.str r.1]))
    refine ⟨l12', (rowsG pa ++ p.1 :: rowsG pb) ++ [r.1], rfl, by rw [upd_same]; exact congrArg some (congrArg HO.lst (show (rowsG pa ++ p.1 :: rowsG pb).map V.str ++ [V.str r.1] = ((rowsG pa ++ p.1 :: rowsG pb) ++ [r.1]).map V.str from (List.map_append (f := V.str) (l₁ := rowsG pa ++ p.1 :: rowsG pb) (l₂ := [r.1])).symm)), by rw [List.length_append]; show _ + 1 ≤ 500; omega, fun x hx => (List.mem_append.mp hx).elim (all60 x) fun w => by rw [List.mem_singleton.mp w]; omega, fun H13 s13 => ?_⟩
    rw [k2]
    have same : ∀ d : Str, (!decide (V.str d = V.str d)) = false := fun d => by simp
    refine ⟨_, rfl, rfl, _, rfl, ?_⟩
    rw [same]
    refine iteF ?_
    have s1013 := (s11.trans s12).trans s13
    have eg13 := s1013 _ _ eg10
    have etb13 := s1013 _ _ etb10
    refine ⟨_, rfl, tb, _, _, .str r.1, rfl, rfl, SqT.of etb13, rfl, (by show 1 ≤ sizeLine; decide), fun l14 hl14 => ?_⟩
    have s14 := same_new hl14 (.lst [V.str r.1])
    refine ⟨_, rfl, l14, g, _, _, rfl, rfl, upd_same, s14 _ _ eg13, Nat.le_trans (show 1 + ((rowsG pa ++ p.1 :: rowsG pb).map V.str).length ≤ 12 by omega) (by decide), fun l15 hl15 => ?_⟩
    have s15 := same_new hl15 (.lst ([V.str r.1] ++ (rowsG pa ++ p.1 :: rowsG pb).map V.str))
    refine ⟨l15, r.1 :: (rowsG pa ++ p.1 :: rowsG pb), rfl, by rw [upd_same]; rfl, by rw [List.length_cons]; omega, fun x hx => (List.mem_cons.mp hx).elim (fun w => by rw [w]; omega) (all60 x), fun H16 s16 => ?_⟩
    rw [k3]
    refine ⟨_, rfl, rfl, _, rfl, ?_⟩
    rw [same]
    refine iteF ?_
    have s1316 := (s14.trans s15).trans s16
    have eg16 := s1316 _ _ eg13
    have eR16 := s1316 _ _ (s1013 _ _ (s910 _ _ eR8))
    refine ⟨_, rfl, rfl, _, rfl, ite2 (fun _ => q _) (fun cd => ?_)⟩
    have dd : due32 p.2 m new = "done" := by
      by_cases c : due32 p.2 m new = "done"
      · exact c
      · exfalso
        exact cd (by rw [Bool.not_eq_true', decide_eq_false_iff_not]; exact fun w => c (V.str.inj w))
    obtain ⟨U, gs, erg, gok, og, ob, cnt⟩ := k4 dd
    rw [erg] at eg16
    have lgs : gs.length ≤ 11 := by
      rw [erg] at lrows
      unfold rowsG at lrows
      rw [List.length_map] at lrows
      exact lrows
    refine ⟨_, rfl, g, rowsG gs, rfl, eg16, (by unfold rowsG; rw [List.length_map]; omega), fun x hx => (by rw [← erg] at hx; exact all60 x hx), fun e he => (by rw [og] at he; cases he), fun h he A H17 own17 s17 fr17 ha17 => ?_⟩
    obtain rfl : foldG (gs.map (·.2)) hl0 = h := by rw [og] at he; exact Sum.inr.inj he
    have eg17 := s17 _ _ eg16
    have eR17 := s17 _ _ eR16
    have a17 := ha17 A.own fun _ w => w
    refine ⟨_, rfl, g, gs, rfl, eg17, gok, by omega, fun pw H18 kvs s18 epw dr => ?_⟩
    have a18 := a17.same s18
    have hno : ∀ {m : Str}, ¬ m = "numbers" → ¬ m = "recipes" → ¬ m = "kept" → ¬ m = "untaken" → ¬ m = "points" → (hallF A).lookup m = none := fun h1 h2 h3 h4 h5 => hallF_no A h1 h2 h3 h4 h5
    have enum : (foldG (gs.map (·.2)) hl0).nums = dicG gs := by
      rw [fold_nums]
      unfold dicG
      rw [List.foldl_map]
      rfl
    have ln60 : (foldG (gs.map (·.2)) hl0).nums.length + (foldG (gs.map (·.2)) hl0).recs.length ≤ 60 := by rw [cnt]; split <;> omega
    refine ⟨_, rfl, A.p, A.dx, _, rfl, a18.ob, hno (by decide +kernel) (by decide +kernel) (by decide +kernel) (by decide +kernel) (by decide +kernel), A, _, _, rfl, a18, by omega, ob.nn, fun p1 ys H19 s19 hp1 pm1 pw1 ep1 => ?_⟩
    have epw19 := s19 _ _ epw
    have lys : ys.length = (foldG (gs.map (·.2)) hl0).nums.length := by rw [pm1.length_eq]; unfold akeys; rw [List.length_map]
    have lkv : kvs.length = (foldG (gs.map (·.2)) hl0).nums.length := by rw [dr.len, enum]
    refine ⟨_, rfl, p1, pw, _, kvs, rfl, rfl, ep1, epw19, by rw [List.length_map, lys, lkv], fun x hx => ?_, _, rfl, ?_⟩
    · obtain ⟨z, hz, rfl⟩ := List.mem_map.mp hx
      have hz2 := pm1.mem_iff.mp hz
      obtain ⟨i, ei⟩ := alk_in hz2
      rw [enum] at ei
      obtain ⟨u, hu, ru⟩ := dr.some ei
      refine ⟨.i (numOf (foldG (gs.map (·.2)) hl0).nums z), rfl, ?_⟩
      have en2 : numOf (foldG (gs.map (·.2)) hl0).nums z = i := by
        rw [enum]
        unfold numOf
        rw [ei]
        rfl
      rw [en2]
      have ru : u = .int i := ru
      show valV kvs (Sum.inr z) = some (V.int i)
      rw [hu, ru]
    refine iteF ?_
    have a19 := a18.same s19
    refine ⟨_, rfl, pw, kvs, rfl, epw19, ?_⟩
    refine ⟨_, rfl, A.p, A.dx, _, rfl, a19.ob, hno (by decide +kernel) (by decide +kernel) (by decide +kernel) (by decide +kernel) (by decide +kernel), A, _, _, rfl, a19, by omega, ob.rn, fun pp hpp => ?_, fun p2 zs H20 s20 hp2 pm2 pw2 ep2 => ?_⟩
    · rw [ob.tk pp hpp]
      exact ⟨by unfold T0; exact ⟨by decide, ⟨by decide, by decide⟩, ⟨by decide, by decide⟩, trivial⟩, by decide, by decide⟩
    have lzs : zs.length = (foldG (gs.map (·.2)) hl0).recs.length := by rw [pm2.length_eq]; unfold akeys; rw [List.length_map]
    have eR20 := s20 _ _ (s19 _ _ (s18 _ _ eR17))
    refine ⟨p2, _, rfl, ep2, _, _, rfl, rfl, ?_⟩
    refine ⟨_, rfl, R, _, rfl, .inl (SqL.of eR20), ?_⟩
    have fin : ∀ k : Bool, (k = true ↔ new = true ∨ m = 0) → decide (V.int (((kvs.length : Nat) : Int) + (((zs.map fun s => ((Sum.inr s : Key), V.str (wr 0 (recOf (foldG (gs.map (·.2)) hl0).recs s)))).length : Nat) : Int)) = V.int (((((rowsG ps0).map V.str).length : Nat) : Int) + (if k = true then 1 else 0))) = true := fun k hk => by
      refine decide_eq_true (congrArg V.int ?_)
      rw [List.length_map, lkv, lzs, lR]
      by_cases c : k = true
      · rw [if_pos (hk.mp c)] at cnt
        rw [if_pos c]
        omega
      · rw [if_neg (fun w => c (hk.mpr w))] at cnt
        rw [if_neg c]
        omega
    refine ⟨_, rfl, new, rfl, ite2 (fun cn => ?_) (fun cn => ?_)⟩
    · refine .inr ⟨true, rfl, _, _, rfl, rfl, rfl, ?_⟩
      exact (congrArg (fun b => Q (V.bl b) H20) (fin true ⟨fun _ => .inl cn, fun _ => rfl⟩)).mpr (q H20)
    · refine ⟨_, rfl, rfl, .inr ⟨_, rfl, _, _, rfl, rfl, rfl, ?_⟩⟩
      refine (congrArg (fun b => Q (V.bl b) H20) (fin (decide (V.int ((m : Nat) : Int) = V.int 0)) ⟨fun w => .inr (by have := V.int.inj (of_decide_eq_true w); omega), fun w => w.elim (fun w => absurd w cn) fun w => decide_eq_true (by rw [w]; rfl)⟩)).mpr (q H20)
end
end Aw

namespace Aw
open PySem L2
set_option maxHeartbeats 0 in
theorem all_mk {l : PySem.W.OpenLaw} {w : World} {K : PySem.W.Frag} {h : Heap} {mg : Str → Option Value} {fa C C_Hall : Addr} (X : K.In h) (G : h.Ns mainGlobals mg) (hfa : mg "law" = some (.ref fa))
    {f_number_piece : Addr} {od_number_piece an_number_piece : Option Addr} {sl_number_piece : Array (Option Value)} {oc_number_piece kV_number_piece dc_number_piece pm_number_piece cd_number_piece ct_number_piece : Value}
    {f_name_piece : Addr} {od_name_piece an_name_piece : Option Addr} {sl_name_piece : Array (Option Value)} {oc_name_piece kV_name_piece dc_name_piece pm_name_piece cd_name_piece ct_name_piece : Value}
    {f_gate_piece : Addr} {od_gate_piece an_gate_piece : Option Addr} {sl_gate_piece : Array (Option Value)} {oc_gate_piece kV_gate_piece dc_gate_piece pm_gate_piece cd_gate_piece ct_gate_piece : Value}
    {f_joined_piece : Addr} {od_joined_piece an_joined_piece : Option Addr} {sl_joined_piece : Array (Option Value)} {oc_joined_piece kV_joined_piece dc_joined_piece pm_joined_piece cd_joined_piece ct_joined_piece : Value}
    {f_shown : Addr} {od_shown an_shown : Option Addr} {sl_shown : Array (Option Value)} {oc_shown kV_shown dc_shown pm_shown cd_shown ct_shown : Value}
    {f_shown_within : Addr} {od_shown_within an_shown_within : Option Addr} {sl_shown_within : Array (Option Value)} {oc_shown_within kV_shown_within dc_shown_within pm_shown_within cd_shown_within ct_shown_within : Value}
    {f_Words_init : Addr} {od_Words_init an_Words_init : Option Addr} {sl_Words_init : Array (Option Value)} {oc_Words_init kV_Words_init dc_Words_init pm_Words_init cd_Words_init ct_Words_init : Value}
    {f_Words_ahead : Addr} {od_Words_ahead an_Words_ahead : Option Addr} {sl_Words_ahead : Array (Option Value)} {oc_Words_ahead kV_Words_ahead dc_Words_ahead pm_Words_ahead cd_Words_ahead ct_Words_ahead : Value}
    {f_Words_taken : Addr} {od_Words_taken an_Words_taken : Option Addr} {sl_Words_taken : Array (Option Value)} {oc_Words_taken kV_Words_taken dc_Words_taken pm_Words_taken cd_Words_taken ct_Words_taken : Value}
    {f_Words_expect : Addr} {od_Words_expect an_Words_expect : Option Addr} {sl_Words_expect : Array (Option Value)} {oc_Words_expect kV_Words_expect dc_Words_expect pm_Words_expect cd_Words_expect ct_Words_expect : Value}
    {f_read : Addr} {od_read an_read : Option Addr} {sl_read : Array (Option Value)} {oc_read kV_read dc_read pm_read cd_read ct_read : Value}
    {f_words_of : Addr} {od_words_of an_words_of : Option Addr} {sl_words_of : Array (Option Value)} {oc_words_of kV_words_of dc_words_of pm_words_of cd_words_of ct_words_of : Value}
    {f_kind_of : Addr} {od_kind_of an_kind_of : Option Addr} {sl_kind_of : Array (Option Value)} {oc_kind_of kV_kind_of dc_kind_of pm_kind_of cd_kind_of ct_kind_of : Value}
    {f_read_level : Addr} {od_read_level an_read_level : Option Addr} {sl_read_level : Array (Option Value)} {oc_read_level kV_read_level dc_read_level pm_read_level cd_read_level ct_read_level : Value}
    {f_read_piece : Addr} {od_read_piece an_read_piece : Option Addr} {sl_read_piece : Array (Option Value)} {oc_read_piece kV_read_piece dc_read_piece pm_read_piece cd_read_piece ct_read_piece : Value}
    {f_read_gate : Addr} {od_read_gate an_read_gate : Option Addr} {sl_read_gate : Array (Option Value)} {oc_read_gate kV_read_gate dc_read_gate pm_read_gate cd_read_gate ct_read_gate : Value}
    {f_is_name : Addr} {od_is_name an_is_name : Option Addr} {sl_is_name : Array (Option Value)} {oc_is_name kV_is_name dc_is_name pm_is_name cd_is_name ct_is_name : Value}
    {f_number_of : Addr} {od_number_of an_number_of : Option Addr} {sl_number_of : Array (Option Value)} {oc_number_of kV_number_of dc_number_of pm_number_of cd_number_of ct_number_of : Value}
    {f_Hall_init : Addr} {od_Hall_init an_Hall_init : Option Addr} {sl_Hall_init : Array (Option Value)} {oc_Hall_init kV_Hall_init dc_Hall_init pm_Hall_init cd_Hall_init ct_Hall_init : Value}
    {f_Hall_put : Addr} {od_Hall_put an_Hall_put : Option Addr} {sl_Hall_put : Array (Option Value)} {oc_Hall_put kV_Hall_put dc_Hall_put pm_Hall_put cd_Hall_put ct_Hall_put : Value}
    {f_Hall_make : Addr} {od_Hall_make an_Hall_make : Option Addr} {sl_Hall_make : Array (Option Value)} {oc_Hall_make kV_Hall_make dc_Hall_make pm_Hall_make cd_Hall_make ct_Hall_make : Value}
    {f_Hall_check_room : Addr} {od_Hall_check_room an_Hall_check_room : Option Addr} {sl_Hall_check_room : Array (Option Value)} {oc_Hall_check_room kV_Hall_check_room dc_Hall_check_room pm_Hall_check_room cd_Hall_check_room ct_Hall_check_room : Value}
    {f_Hall_wells : Addr} {od_Hall_wells an_Hall_wells : Option Addr} {sl_Hall_wells : Array (Option Value)} {oc_Hall_wells kV_Hall_wells dc_Hall_wells pm_Hall_wells cd_Hall_wells ct_Hall_wells : Value}
    {f_Hall_works : Addr} {od_Hall_works an_Hall_works : Option Addr} {sl_Hall_works : Array (Option Value)} {oc_Hall_works kV_Hall_works dc_Hall_works pm_Hall_works cd_Hall_works ct_Hall_works : Value}
    {f_check_name : Addr} {od_check_name an_check_name : Option Addr} {sl_check_name : Array (Option Value)} {oc_check_name kV_check_name dc_check_name pm_check_name cd_check_name ct_check_name : Value}
    {f_do_row : Addr} {od_do_row an_do_row : Option Addr} {sl_do_row : Array (Option Value)} {oc_do_row kV_do_row dc_do_row pm_do_row cd_do_row ct_do_row : Value}
    {f_is_one_or_two_figures : Addr} {od_is_one_or_two_figures an_is_one_or_two_figures : Option Addr} {sl_is_one_or_two_figures : Array (Option Value)} {oc_is_one_or_two_figures kV_is_one_or_two_figures dc_is_one_or_two_figures pm_is_one_or_two_figures cd_is_one_or_two_figures ct_is_one_or_two_figures : Value}
    {f_opened : Addr} {od_opened an_opened : Option Addr} {sl_opened : Array (Option Value)} {oc_opened kV_opened dc_opened pm_opened cd_opened ct_opened : Value}
    {f_law_cell_at : Addr} {od_law_cell_at an_law_cell_at : Option Addr} {sl_law_cell_at : Array (Option Value)} {oc_law_cell_at kV_law_cell_at dc_law_cell_at pm_law_cell_at cd_law_cell_at ct_law_cell_at : Value}
    {f_law_names : Addr} {od_law_names an_law_names : Option Addr} {sl_law_names : Array (Option Value)} {oc_law_names kV_law_names dc_law_names pm_law_names cd_law_names ct_law_names : Value}
    {f_law_row : Addr} {od_law_row an_law_row : Option Addr} {sl_law_row : Array (Option Value)} {oc_law_row kV_law_row dc_law_row pm_law_row cd_law_row ct_law_row : Value}
    {f_law_kind : Addr} {od_law_kind an_law_kind : Option Addr} {sl_law_kind : Array (Option Value)} {oc_law_kind kV_law_kind dc_law_kind pm_law_kind cd_law_kind ct_law_kind : Value}
    {f_law_wells : Addr} {od_law_wells an_law_wells : Option Addr} {sl_law_wells : Array (Option Value)} {oc_law_wells kV_law_wells dc_law_wells pm_law_wells cd_law_wells ct_law_wells : Value}
    {f_law : Addr} {od_law an_law : Option Addr} {sl_law : Array (Option Value)} {oc_law kV_law dc_law pm_law cd_law ct_law : Value}
    {tk1 tk2 tk3 tk4 tk5 tk6 tk7 tk8 tk9 tl1 tl2 tl3 tg1 tg2 tg3 : Tok} {aL aS : Addr} {odL : Option Addr} {nL nS : Nat} {slL : Array (Option Value)} {esS : Array DictEntry}
    {NN : Addr} {NB : Addr} {NF : Addr} {tk_MOST_NAMES : Tok}
    {aB bG bS bL bM : Addr} {oG oS oL oM : Option Addr} {nB nG nSu nLe nMo : Nat} {esB : Array DictEntry} {slG slS slL2 slM : Array (Option Value)} {u1 u2 u3 v1 v2 v3 w1 w2 w3 w4 x1 x2 x3 x4 x5 : Tok}
    {NR : Addr}
    {HE : Addr}
    (a_number_piece : PySem.W.nsIn K mainGlobals "number_piece" = some (some (.ref f_number_piece)))
    (l_number_piece : K.lookup f_number_piece = some ⟨oc_number_piece, od_number_piece, .func (PySem.W.fnOf "number_piece" "number_piece" (defArgs s_number_piece) (defBody s_number_piece) (defScope s_number_piece) .none kV_number_piece dc_number_piece pm_number_piece an_number_piece cd_number_piece ct_number_piece), sl_number_piece⟩) (c_number_piece : PySem.W.codeIn K cd_number_piece "number_piece" = true) (k_number_piece : PySem.W.keepIn K (.ref f_number_piece) = true)
    (a_name_piece : PySem.W.nsIn K mainGlobals "name_piece" = some (some (.ref f_name_piece)))
    (l_name_piece : K.lookup f_name_piece = some ⟨oc_name_piece, od_name_piece, .func (PySem.W.fnOf "name_piece" "name_piece" (defArgs s_name_piece) (defBody s_name_piece) (defScope s_name_piece) .none kV_name_piece dc_name_piece pm_name_piece an_name_piece cd_name_piece ct_name_piece), sl_name_piece⟩) (c_name_piece : PySem.W.codeIn K cd_name_piece "name_piece" = true) (k_name_piece : PySem.W.keepIn K (.ref f_name_piece) = true)
    (a_gate_piece : PySem.W.nsIn K mainGlobals "gate_piece" = some (some (.ref f_gate_piece)))
    (l_gate_piece : K.lookup f_gate_piece = some ⟨oc_gate_piece, od_gate_piece, .func (PySem.W.fnOf "gate_piece" "gate_piece" (defArgs s_gate_piece) (defBody s_gate_piece) (defScope s_gate_piece) .none kV_gate_piece dc_gate_piece pm_gate_piece an_gate_piece cd_gate_piece ct_gate_piece), sl_gate_piece⟩) (c_gate_piece : PySem.W.codeIn K cd_gate_piece "gate_piece" = true) (k_gate_piece : PySem.W.keepIn K (.ref f_gate_piece) = true)
    (a_joined_piece : PySem.W.nsIn K mainGlobals "joined_piece" = some (some (.ref f_joined_piece)))
    (l_joined_piece : K.lookup f_joined_piece = some ⟨oc_joined_piece, od_joined_piece, .func (PySem.W.fnOf "joined_piece" "joined_piece" (defArgs s_joined_piece) (defBody s_joined_piece) (defScope s_joined_piece) .none kV_joined_piece dc_joined_piece pm_joined_piece an_joined_piece cd_joined_piece ct_joined_piece), sl_joined_piece⟩) (c_joined_piece : PySem.W.codeIn K cd_joined_piece "joined_piece" = true) (k_joined_piece : PySem.W.keepIn K (.ref f_joined_piece) = true)
    (a_shown : PySem.W.nsIn K mainGlobals "shown" = some (some (.ref f_shown)))
    (l_shown : K.lookup f_shown = some ⟨oc_shown, od_shown, .func (PySem.W.fnOf "shown" "shown" (defArgs s_shown) (defBody s_shown) (defScope s_shown) .none kV_shown dc_shown pm_shown an_shown cd_shown ct_shown), sl_shown⟩) (c_shown : PySem.W.codeIn K cd_shown "shown" = true) (k_shown : PySem.W.keepIn K (.ref f_shown) = true)
    (a_shown_within : PySem.W.nsIn K mainGlobals "shown_within" = some (some (.ref f_shown_within)))
    (l_shown_within : K.lookup f_shown_within = some ⟨oc_shown_within, od_shown_within, .func (PySem.W.fnOf "shown_within" "shown_within" (defArgs s_shown_within) (defBody s_shown_within) (defScope s_shown_within) .none kV_shown_within dc_shown_within pm_shown_within an_shown_within cd_shown_within ct_shown_within), sl_shown_within⟩) (c_shown_within : PySem.W.codeIn K cd_shown_within "shown_within" = true) (k_shown_within : PySem.W.keepIn K (.ref f_shown_within) = true)
    (a_Words_init : PySem.W.findIn K (.ref C) "__init__" = some (some (.ref f_Words_init))) (i_Words_init : PySem.W.isFn K (.ref f_Words_init) = true)
    (l_Words_init : K.lookup f_Words_init = some ⟨oc_Words_init, od_Words_init, .func (PySem.W.fnOf "__init__" "Words.__init__" (defArgs s_Words_init) (defBody s_Words_init) (defScope s_Words_init) .none kV_Words_init dc_Words_init pm_Words_init an_Words_init cd_Words_init ct_Words_init), sl_Words_init⟩) (c_Words_init : PySem.W.codeIn K cd_Words_init "Words.__init__" = true) (k_Words_init : PySem.W.keepIn K (.ref f_Words_init) = true)
    (a_Words_ahead : PySem.W.findIn K (.ref C) "ahead" = some (some (.ref f_Words_ahead))) (i_Words_ahead : PySem.W.isFn K (.ref f_Words_ahead) = true)
    (l_Words_ahead : K.lookup f_Words_ahead = some ⟨oc_Words_ahead, od_Words_ahead, .func (PySem.W.fnOf "ahead" "Words.ahead" (defArgs s_Words_ahead) (defBody s_Words_ahead) (defScope s_Words_ahead) .none kV_Words_ahead dc_Words_ahead pm_Words_ahead an_Words_ahead cd_Words_ahead ct_Words_ahead), sl_Words_ahead⟩) (c_Words_ahead : PySem.W.codeIn K cd_Words_ahead "Words.ahead" = true) (k_Words_ahead : PySem.W.keepIn K (.ref f_Words_ahead) = true)
    (a_Words_taken : PySem.W.findIn K (.ref C) "taken" = some (some (.ref f_Words_taken))) (i_Words_taken : PySem.W.isFn K (.ref f_Words_taken) = true)
    (l_Words_taken : K.lookup f_Words_taken = some ⟨oc_Words_taken, od_Words_taken, .func (PySem.W.fnOf "taken" "Words.taken" (defArgs s_Words_taken) (defBody s_Words_taken) (defScope s_Words_taken) .none kV_Words_taken dc_Words_taken pm_Words_taken an_Words_taken cd_Words_taken ct_Words_taken), sl_Words_taken⟩) (c_Words_taken : PySem.W.codeIn K cd_Words_taken "Words.taken" = true) (k_Words_taken : PySem.W.keepIn K (.ref f_Words_taken) = true)
    (a_Words_expect : PySem.W.findIn K (.ref C) "expect" = some (some (.ref f_Words_expect))) (i_Words_expect : PySem.W.isFn K (.ref f_Words_expect) = true)
    (l_Words_expect : K.lookup f_Words_expect = some ⟨oc_Words_expect, od_Words_expect, .func (PySem.W.fnOf "expect" "Words.expect" (defArgs s_Words_expect) (defBody s_Words_expect) (defScope s_Words_expect) .none kV_Words_expect dc_Words_expect pm_Words_expect an_Words_expect cd_Words_expect ct_Words_expect), sl_Words_expect⟩) (c_Words_expect : PySem.W.codeIn K cd_Words_expect "Words.expect" = true) (k_Words_expect : PySem.W.keepIn K (.ref f_Words_expect) = true)
    (a_read : PySem.W.nsIn K mainGlobals "read" = some (some (.ref f_read)))
    (l_read : K.lookup f_read = some ⟨oc_read, od_read, .func (PySem.W.fnOf "read" "read" (defArgs s_read) (defBody s_read) (defScope s_read) .none kV_read dc_read pm_read an_read cd_read ct_read), sl_read⟩) (c_read : PySem.W.codeIn K cd_read "read" = true) (k_read : PySem.W.keepIn K (.ref f_read) = true)
    (a_words_of : PySem.W.nsIn K mainGlobals "words_of" = some (some (.ref f_words_of)))
    (l_words_of : K.lookup f_words_of = some ⟨oc_words_of, od_words_of, .func (PySem.W.fnOf "words_of" "words_of" (defArgs s_words_of) (defBody s_words_of) (defScope s_words_of) .none kV_words_of dc_words_of pm_words_of an_words_of cd_words_of ct_words_of), sl_words_of⟩) (c_words_of : PySem.W.codeIn K cd_words_of "words_of" = true) (k_words_of : PySem.W.keepIn K (.ref f_words_of) = true)
    (a_kind_of : PySem.W.nsIn K mainGlobals "kind_of" = some (some (.ref f_kind_of)))
    (l_kind_of : K.lookup f_kind_of = some ⟨oc_kind_of, od_kind_of, .func (PySem.W.fnOf "kind_of" "kind_of" (defArgs s_kind_of) (defBody s_kind_of) (defScope s_kind_of) .none kV_kind_of dc_kind_of pm_kind_of an_kind_of cd_kind_of ct_kind_of), sl_kind_of⟩) (c_kind_of : PySem.W.codeIn K cd_kind_of "kind_of" = true) (k_kind_of : PySem.W.keepIn K (.ref f_kind_of) = true)
    (a_read_level : PySem.W.nsIn K mainGlobals "read_level" = some (some (.ref f_read_level)))
    (l_read_level : K.lookup f_read_level = some ⟨oc_read_level, od_read_level, .func (PySem.W.fnOf "read_level" "read_level" (defArgs s_read_level) (defBody s_read_level) (defScope s_read_level) .none kV_read_level dc_read_level pm_read_level an_read_level cd_read_level ct_read_level), sl_read_level⟩) (c_read_level : PySem.W.codeIn K cd_read_level "read_level" = true) (k_read_level : PySem.W.keepIn K (.ref f_read_level) = true)
    (a_read_piece : PySem.W.nsIn K mainGlobals "read_piece" = some (some (.ref f_read_piece)))
    (l_read_piece : K.lookup f_read_piece = some ⟨oc_read_piece, od_read_piece, .func (PySem.W.fnOf "read_piece" "read_piece" (defArgs s_read_piece) (defBody s_read_piece) (defScope s_read_piece) .none kV_read_piece dc_read_piece pm_read_piece an_read_piece cd_read_piece ct_read_piece), sl_read_piece⟩) (c_read_piece : PySem.W.codeIn K cd_read_piece "read_piece" = true) (k_read_piece : PySem.W.keepIn K (.ref f_read_piece) = true)
    (a_read_gate : PySem.W.nsIn K mainGlobals "read_gate" = some (some (.ref f_read_gate)))
    (l_read_gate : K.lookup f_read_gate = some ⟨oc_read_gate, od_read_gate, .func (PySem.W.fnOf "read_gate" "read_gate" (defArgs s_read_gate) (defBody s_read_gate) (defScope s_read_gate) .none kV_read_gate dc_read_gate pm_read_gate an_read_gate cd_read_gate ct_read_gate), sl_read_gate⟩) (c_read_gate : PySem.W.codeIn K cd_read_gate "read_gate" = true) (k_read_gate : PySem.W.keepIn K (.ref f_read_gate) = true)
    (a_is_name : PySem.W.nsIn K mainGlobals "is_name" = some (some (.ref f_is_name)))
    (l_is_name : K.lookup f_is_name = some ⟨oc_is_name, od_is_name, .func (PySem.W.fnOf "is_name" "is_name" (defArgs s_is_name) (defBody s_is_name) (defScope s_is_name) .none kV_is_name dc_is_name pm_is_name an_is_name cd_is_name ct_is_name), sl_is_name⟩) (c_is_name : PySem.W.codeIn K cd_is_name "is_name" = true) (k_is_name : PySem.W.keepIn K (.ref f_is_name) = true)
    (a_number_of : PySem.W.nsIn K mainGlobals "number_of" = some (some (.ref f_number_of)))
    (l_number_of : K.lookup f_number_of = some ⟨oc_number_of, od_number_of, .func (PySem.W.fnOf "number_of" "number_of" (defArgs s_number_of) (defBody s_number_of) (defScope s_number_of) .none kV_number_of dc_number_of pm_number_of an_number_of cd_number_of ct_number_of), sl_number_of⟩) (c_number_of : PySem.W.codeIn K cd_number_of "number_of" = true) (k_number_of : PySem.W.keepIn K (.ref f_number_of) = true)
    (a_Hall_init : PySem.W.findIn K (.ref C_Hall) "__init__" = some (some (.ref f_Hall_init))) (i_Hall_init : PySem.W.isFn K (.ref f_Hall_init) = true)
    (l_Hall_init : K.lookup f_Hall_init = some ⟨oc_Hall_init, od_Hall_init, .func (PySem.W.fnOf "__init__" "Hall.__init__" (defArgs s_Hall_init) (defBody s_Hall_init) (defScope s_Hall_init) .none kV_Hall_init dc_Hall_init pm_Hall_init an_Hall_init cd_Hall_init ct_Hall_init), sl_Hall_init⟩) (c_Hall_init : PySem.W.codeIn K cd_Hall_init "Hall.__init__" = true) (k_Hall_init : PySem.W.keepIn K (.ref f_Hall_init) = true)
    (a_Hall_put : PySem.W.findIn K (.ref C_Hall) "put" = some (some (.ref f_Hall_put))) (i_Hall_put : PySem.W.isFn K (.ref f_Hall_put) = true)
    (l_Hall_put : K.lookup f_Hall_put = some ⟨oc_Hall_put, od_Hall_put, .func (PySem.W.fnOf "put" "Hall.put" (defArgs s_Hall_put) (defBody s_Hall_put) (defScope s_Hall_put) .none kV_Hall_put dc_Hall_put pm_Hall_put an_Hall_put cd_Hall_put ct_Hall_put), sl_Hall_put⟩) (c_Hall_put : PySem.W.codeIn K cd_Hall_put "Hall.put" = true) (k_Hall_put : PySem.W.keepIn K (.ref f_Hall_put) = true)
    (a_Hall_make : PySem.W.findIn K (.ref C_Hall) "make" = some (some (.ref f_Hall_make))) (i_Hall_make : PySem.W.isFn K (.ref f_Hall_make) = true)
    (l_Hall_make : K.lookup f_Hall_make = some ⟨oc_Hall_make, od_Hall_make, .func (PySem.W.fnOf "make" "Hall.make" (defArgs s_Hall_make) (defBody s_Hall_make) (defScope s_Hall_make) .none kV_Hall_make dc_Hall_make pm_Hall_make an_Hall_make cd_Hall_make ct_Hall_make), sl_Hall_make⟩) (c_Hall_make : PySem.W.codeIn K cd_Hall_make "Hall.make" = true) (k_Hall_make : PySem.W.keepIn K (.ref f_Hall_make) = true)
    (a_Hall_check_room : PySem.W.findIn K (.ref C_Hall) "check_room" = some (some (.ref f_Hall_check_room))) (i_Hall_check_room : PySem.W.isFn K (.ref f_Hall_check_room) = true)
    (l_Hall_check_room : K.lookup f_Hall_check_room = some ⟨oc_Hall_check_room, od_Hall_check_room, .func (PySem.W.fnOf "check_room" "Hall.check_room" (defArgs s_Hall_check_room) (defBody s_Hall_check_room) (defScope s_Hall_check_room) .none kV_Hall_check_room dc_Hall_check_room pm_Hall_check_room an_Hall_check_room cd_Hall_check_room ct_Hall_check_room), sl_Hall_check_room⟩) (c_Hall_check_room : PySem.W.codeIn K cd_Hall_check_room "Hall.check_room" = true) (k_Hall_check_room : PySem.W.keepIn K (.ref f_Hall_check_room) = true)
    (a_Hall_wells : PySem.W.findIn K (.ref C_Hall) "wells" = some (some (.ref f_Hall_wells))) (i_Hall_wells : PySem.W.isFn K (.ref f_Hall_wells) = true)
    (l_Hall_wells : K.lookup f_Hall_wells = some ⟨oc_Hall_wells, od_Hall_wells, .func (PySem.W.fnOf "wells" "Hall.wells" (defArgs s_Hall_wells) (defBody s_Hall_wells) (defScope s_Hall_wells) .none kV_Hall_wells dc_Hall_wells pm_Hall_wells an_Hall_wells cd_Hall_wells ct_Hall_wells), sl_Hall_wells⟩) (c_Hall_wells : PySem.W.codeIn K cd_Hall_wells "Hall.wells" = true) (k_Hall_wells : PySem.W.keepIn K (.ref f_Hall_wells) = true)
    (a_Hall_works : PySem.W.findIn K (.ref C_Hall) "works" = some (some (.ref f_Hall_works))) (i_Hall_works : PySem.W.isFn K (.ref f_Hall_works) = true)
    (l_Hall_works : K.lookup f_Hall_works = some ⟨oc_Hall_works, od_Hall_works, .func (PySem.W.fnOf "works" "Hall.works" (defArgs s_Hall_works) (defBody s_Hall_works) (defScope s_Hall_works) .none kV_Hall_works dc_Hall_works pm_Hall_works an_Hall_works cd_Hall_works ct_Hall_works), sl_Hall_works⟩) (c_Hall_works : PySem.W.codeIn K cd_Hall_works "Hall.works" = true) (k_Hall_works : PySem.W.keepIn K (.ref f_Hall_works) = true)
    (a_check_name : PySem.W.nsIn K mainGlobals "check_name" = some (some (.ref f_check_name)))
    (l_check_name : K.lookup f_check_name = some ⟨oc_check_name, od_check_name, .func (PySem.W.fnOf "check_name" "check_name" (defArgs s_check_name) (defBody s_check_name) (defScope s_check_name) .none kV_check_name dc_check_name pm_check_name an_check_name cd_check_name ct_check_name), sl_check_name⟩) (c_check_name : PySem.W.codeIn K cd_check_name "check_name" = true) (k_check_name : PySem.W.keepIn K (.ref f_check_name) = true)
    (a_do_row : PySem.W.nsIn K mainGlobals "do_row" = some (some (.ref f_do_row)))
    (l_do_row : K.lookup f_do_row = some ⟨oc_do_row, od_do_row, .func (PySem.W.fnOf "do_row" "do_row" (defArgs s_do_row) (defBody s_do_row) (defScope s_do_row) .none kV_do_row dc_do_row pm_do_row an_do_row cd_do_row ct_do_row), sl_do_row⟩) (c_do_row : PySem.W.codeIn K cd_do_row "do_row" = true) (k_do_row : PySem.W.keepIn K (.ref f_do_row) = true)
    (a_is_one_or_two_figures : PySem.W.nsIn K mainGlobals "is_one_or_two_figures" = some (some (.ref f_is_one_or_two_figures)))
    (l_is_one_or_two_figures : K.lookup f_is_one_or_two_figures = some ⟨oc_is_one_or_two_figures, od_is_one_or_two_figures, .func (PySem.W.fnOf "is_one_or_two_figures" "is_one_or_two_figures" (defArgs s_is_one_or_two_figures) (defBody s_is_one_or_two_figures) (defScope s_is_one_or_two_figures) .none kV_is_one_or_two_figures dc_is_one_or_two_figures pm_is_one_or_two_figures an_is_one_or_two_figures cd_is_one_or_two_figures ct_is_one_or_two_figures), sl_is_one_or_two_figures⟩) (c_is_one_or_two_figures : PySem.W.codeIn K cd_is_one_or_two_figures "is_one_or_two_figures" = true) (k_is_one_or_two_figures : PySem.W.keepIn K (.ref f_is_one_or_two_figures) = true)
    (a_opened : PySem.W.nsIn K mainGlobals "opened" = some (some (.ref f_opened)))
    (l_opened : K.lookup f_opened = some ⟨oc_opened, od_opened, .func (PySem.W.fnOf "opened" "opened" (defArgs s_opened) (defBody s_opened) (defScope s_opened) .none kV_opened dc_opened pm_opened an_opened cd_opened ct_opened), sl_opened⟩) (c_opened : PySem.W.codeIn K cd_opened "opened" = true) (k_opened : PySem.W.keepIn K (.ref f_opened) = true)
    (a_law_cell_at : PySem.W.nsIn K mainGlobals "_law_cell_at" = some (some (.ref f_law_cell_at)))
    (l_law_cell_at : K.lookup f_law_cell_at = some ⟨oc_law_cell_at, od_law_cell_at, .func (PySem.W.fnOf "_law_cell_at" "_law_cell_at" (defArgs s_law_cell_at) (defBody s_law_cell_at) (defScope s_law_cell_at) .none kV_law_cell_at dc_law_cell_at pm_law_cell_at an_law_cell_at cd_law_cell_at ct_law_cell_at), sl_law_cell_at⟩) (c_law_cell_at : PySem.W.codeIn K cd_law_cell_at "_law_cell_at" = true) (k_law_cell_at : PySem.W.keepIn K (.ref f_law_cell_at) = true)
    (a_law_names : PySem.W.nsIn K mainGlobals "_law_names" = some (some (.ref f_law_names)))
    (l_law_names : K.lookup f_law_names = some ⟨oc_law_names, od_law_names, .func (PySem.W.fnOf "_law_names" "_law_names" (defArgs s_law_names) (defBody s_law_names) (defScope s_law_names) .none kV_law_names dc_law_names pm_law_names an_law_names cd_law_names ct_law_names), sl_law_names⟩) (c_law_names : PySem.W.codeIn K cd_law_names "_law_names" = true) (k_law_names : PySem.W.keepIn K (.ref f_law_names) = true)
    (a_law_row : PySem.W.nsIn K mainGlobals "_law_row" = some (some (.ref f_law_row)))
    (l_law_row : K.lookup f_law_row = some ⟨oc_law_row, od_law_row, .func (PySem.W.fnOf "_law_row" "_law_row" (defArgs s_law_row) (defBody s_law_row) (defScope s_law_row) .none kV_law_row dc_law_row pm_law_row an_law_row cd_law_row ct_law_row), sl_law_row⟩) (c_law_row : PySem.W.codeIn K cd_law_row "_law_row" = true) (k_law_row : PySem.W.keepIn K (.ref f_law_row) = true)
    (a_law_kind : PySem.W.nsIn K mainGlobals "_law_kind" = some (some (.ref f_law_kind)))
    (l_law_kind : K.lookup f_law_kind = some ⟨oc_law_kind, od_law_kind, .func (PySem.W.fnOf "_law_kind" "_law_kind" (defArgs s_law_kind) (defBody s_law_kind) (defScope s_law_kind) .none kV_law_kind dc_law_kind pm_law_kind an_law_kind cd_law_kind ct_law_kind), sl_law_kind⟩) (c_law_kind : PySem.W.codeIn K cd_law_kind "_law_kind" = true) (k_law_kind : PySem.W.keepIn K (.ref f_law_kind) = true)
    (a_law_wells : PySem.W.nsIn K mainGlobals "_law_wells" = some (some (.ref f_law_wells)))
    (l_law_wells : K.lookup f_law_wells = some ⟨oc_law_wells, od_law_wells, .func (PySem.W.fnOf "_law_wells" "_law_wells" (defArgs s_law_wells) (defBody s_law_wells) (defScope s_law_wells) .none kV_law_wells dc_law_wells pm_law_wells an_law_wells cd_law_wells ct_law_wells), sl_law_wells⟩) (c_law_wells : PySem.W.codeIn K cd_law_wells "_law_wells" = true) (k_law_wells : PySem.W.keepIn K (.ref f_law_wells) = true)
    (a_law : PySem.W.nsIn K mainGlobals "law" = some (some (.ref f_law)))
    (l_law : K.lookup f_law = some ⟨oc_law, od_law, .func (PySem.W.fnOf "law" "law" (defArgs s_law) (defBody s_law) (defScope s_law) .none kV_law dc_law pm_law an_law cd_law ct_law), sl_law⟩) (c_law : PySem.W.codeIn K cd_law "law" = true) (k_law : PySem.W.keepIn K (.ref f_law) = true)
    (aC : PySem.W.nsIn K mainGlobals "Words" = some (some (.ref C)))
    (pg : PySem.W.plainGet K C Str.empty = true)
    (hd : PySem.W.hasDictIn K C = true)
    (po : PySem.W.plainOver K C = true)
    (sa : PySem.W.findIn K (.ref C) "__setattr__" = some (some (.builtin "object.__setattr__")))
    (mk : PySem.W.makesIn K C = true)
    (kc : PySem.W.keepIn K (.ref C) = true)
    (nW : PySem.W.findIn K (.ref C) "words" = some none)
    (nA : PySem.W.findIn K (.ref C) "at" = some none)
    (aN : PySem.W.nsIn K mainGlobals "NoRecipe" = some (some (.ref N)))
    (xN : PySem.W.excIn K N [.type "ValueError", .type "Exception", .type "BaseException", .type "object"] "ValueError.__new__" = true)
    (kN : PySem.W.keepIn K (.ref N) = true)
    (bN : PySem.W.subIn K (.ref N) (.type "BaseException") = some true)
    (tN : PySem.W.typeIn K (.ref N) = some (.type "type"))
    (z_len : PySem.W.nsIn K mainGlobals "len" = some none)
    (z_range : PySem.W.nsIn K mainGlobals "range" = some none)
    (z_str : PySem.W.nsIn K mainGlobals "str" = some none)
    (z_all : PySem.W.nsIn K mainGlobals "all" = some none)
    (z_tuple : PySem.W.nsIn K mainGlobals "tuple" = some none)
    (z_int : PySem.W.nsIn K mainGlobals "int" = some none)
    (g1 : PySem.W.nsIn K mainGlobals "GREATEST" = some (some (.int 30 tk1)))
    (g2 : PySem.W.nsIn K mainGlobals "LETTERS" = some (some (.str "abcdefghijklmnopqrstuvwxyz" tk2)))
    (g3 : PySem.W.nsIn K mainGlobals "FIGURES" = some (some (.str "0123456789" tk3)))
    (g4 : PySem.W.nsIn K mainGlobals "OTHER_WORDS" = some (some (.str "+&|()[]" tk4)))
    (g5 : PySem.W.nsIn K mainGlobals "LONGEST_NAME" = some (some (.int 6 tk5)))
    (g6 : PySem.W.nsIn K mainGlobals "MOST_PIECES" = some (some (.int 8 tk6)))
    (g7 : PySem.W.nsIn K mainGlobals "MOST_WORDS" = some (some (.int 40 tk7)))
    (g8 : PySem.W.nsIn K mainGlobals "MOST_SIGNS" = some (some (.int 400 tk8)))
    (g9 : PySem.W.nsIn K mainGlobals "DEEPEST" = some (some (.int 2 tk9)))
    (gL : PySem.W.nsIn K mainGlobals "LEVELS" = some (some (.ref aL)))
    (lL : K.lookup aL = some ⟨.type "tuple", odL, .seq #[.str "most" tl1, .str "least" tl2, .str "sum" tl3] nL, slL⟩)
    (gS : PySem.W.nsIn K mainGlobals "SIGNS" = some (some (.ref aS)))
    (lS : K.lookup aS = some ⟨.type "dict", none, .dict esS nS, #[]⟩)
    (kS : PySem.W.KeysLit w.params esS.toList)
    (s1 : PySem.W.nsIn K aS "sum" = some (some (.str "+" tg1)))
    (s2 : PySem.W.nsIn K aS "least" = some (some (.str "&" tg2)))
    (s3 : PySem.W.nsIn K aS "most" = some (some (.str "|" tg3)))
    (z_isi : PySem.W.nsIn K mainGlobals "isinstance" = some none)
    (z_bool : PySem.W.nsIn K mainGlobals "bool" = some none)
    (z_min : PySem.W.nsIn K mainGlobals "min" = some none)
    (z_max : PySem.W.nsIn K mainGlobals "max" = some none)
    (z_sum : PySem.W.nsIn K mainGlobals "sum" = some none)
    (z_list : PySem.W.nsIn K mainGlobals "list" = some none)
    (aC_Hall : PySem.W.nsIn K mainGlobals "Hall" = some (some (.ref C_Hall)))
    (pg_Hall : PySem.W.plainGet K C_Hall Str.empty = true)
    (hd_Hall : PySem.W.hasDictIn K C_Hall = true)
    (po_Hall : PySem.W.plainOver K C_Hall = true)
    (sa_Hall : PySem.W.findIn K (.ref C_Hall) "__setattr__" = some (some (.builtin "object.__setattr__")))
    (mk_Hall : PySem.W.makesIn K C_Hall = true)
    (kc_Hall : PySem.W.keepIn K (.ref C_Hall) = true)
    (n_Hall_numbers : PySem.W.findIn K (.ref C_Hall) "numbers" = some none)
    (n_Hall_recipes : PySem.W.findIn K (.ref C_Hall) "recipes" = some none)
    (n_Hall_kept : PySem.W.findIn K (.ref C_Hall) "kept" = some none)
    (n_Hall_untaken : PySem.W.findIn K (.ref C_Hall) "untaken" = some none)
    (n_Hall_points : PySem.W.findIn K (.ref C_Hall) "points" = some none)
    (aX_NoName : PySem.W.nsIn K mainGlobals "NoName" = some (some (.ref NN)))
    (xX_NoName : PySem.W.excIn K NN [.type "ValueError", .type "Exception", .type "BaseException", .type "object"] "ValueError.__new__" = true)
    (kX_NoName : PySem.W.keepIn K (.ref NN) = true)
    (bX_NoName : PySem.W.subIn K (.ref NN) (.type "BaseException") = some true)
    (tX_NoName : PySem.W.typeIn K (.ref NN) = some (.type "type"))
    (aX_NoNumber : PySem.W.nsIn K mainGlobals "NoNumber" = some (some (.ref NB)))
    (xX_NoNumber : PySem.W.excIn K NB [.type "ValueError", .type "Exception", .type "BaseException", .type "object"] "ValueError.__new__" = true)
    (kX_NoNumber : PySem.W.keepIn K (.ref NB) = true)
    (bX_NoNumber : PySem.W.subIn K (.ref NB) (.type "BaseException") = some true)
    (tX_NoNumber : PySem.W.typeIn K (.ref NB) = some (.type "type"))
    (aX_Full : PySem.W.nsIn K mainGlobals "Full" = some (some (.ref NF)))
    (xX_Full : PySem.W.excIn K NF [.type "ValueError", .type "Exception", .type "BaseException", .type "object"] "ValueError.__new__" = true)
    (kX_Full : PySem.W.keepIn K (.ref NF) = true)
    (bX_Full : PySem.W.subIn K (.ref NF) (.type "BaseException") = some true)
    (tX_Full : PySem.W.typeIn K (.ref NF) = some (.type "type"))
    (z_any : PySem.W.nsIn K mainGlobals "any" = some none)
    (g_MOST_NAMES : PySem.W.nsIn K mainGlobals "MOST_NAMES" = some (some (.int 10 tk_MOST_NAMES)))
    (gB : PySem.W.nsIn K mainGlobals "BARE" = some (some (.ref aB)))
    (lB : K.lookup aB = some ⟨.type "dict", none, .dict esB nB, #[]⟩)
    (kB : PySem.W.KeysLit w.params esB.toList)
    (q1 : PySem.W.nsIn K aB "gate" = some (some (.ref bG)))
    (q2 : PySem.W.nsIn K aB "sum" = some (some (.ref bS)))
    (q3 : PySem.W.nsIn K aB "least" = some (some (.ref bL)))
    (q4 : PySem.W.nsIn K aB "most" = some (some (.ref bM)))
    (r1 : K.lookup bG = some ⟨.type "tuple", oG, .seq #[.str "number" u1, .str "name" u2, .str "gate" u3] nG, slG⟩)
    (r2 : K.lookup bS = some ⟨.type "tuple", oS, .seq #[.str "number" v1, .str "name" v2, .str "gate" v3] nSu, slS⟩)
    (r3 : K.lookup bL = some ⟨.type "tuple", oL, .seq #[.str "number" w1, .str "name" w2, .str "gate" w3, .str "sum" w4] nLe, slL2⟩)
    (r4 : K.lookup bM = some ⟨.type "tuple", oM, .seq #[.str "number" x1, .str "name" x2, .str "gate" x3, .str "sum" x4, .str "least" x5] nMo, slM⟩)
    (z_sorted : PySem.W.nsIn K mainGlobals "sorted" = some none)
    (aX_NoRow : PySem.W.nsIn K mainGlobals "NoRow" = some (some (.ref NR)))
    (xX_NoRow : PySem.W.excIn K NR [.type "ValueError", .type "Exception", .type "BaseException", .type "object"] "ValueError.__new__" = true)
    (kX_NoRow : PySem.W.keepIn K (.ref NR) = true)
    (bX_NoRow : PySem.W.subIn K (.ref NR) (.type "BaseException") = some true)
    (tX_NoRow : PySem.W.typeIn K (.ref NR) = some (.type "type"))
    (z_dict : PySem.W.nsIn K mainGlobals "dict" = some none)
    (aX_HallError : PySem.W.nsIn K mainGlobals "HallError" = some (some (.ref HE)))
    (z_ValueError : PySem.W.nsIn K mainGlobals "ValueError" = some none)
    (cg_NoRow : PySem.W.findIn K (.ref NR) "__getattribute__" = some (some (.builtin "BaseException.__getattribute__")))
    (ck_NoRow : PySem.W.findIn K (.ref NR) "__getattr__" = some none)
    (cd_NoRow_ : PySem.W.hasDictIn K NR = true)
    (ca_NoRow : PySem.W.findIn K (.ref NR) "__class__" = some (some (.builtin "object.__class__")))
    (cn_NoRow : PySem.W.specialIn K (.builtin "object.__class__") "__get__" = some (some (.builtin "getset_descriptor.__get__")))
    (ct_NoRow_ : PySem.W.takesIn K (.builtin "object.__class__") = some true)
    (cm_NoRow : PySem.W.mroIn K NR (.type "object") = some true)
    (is_HallError : PySem.W.isClsIn K HE = true)
    (tX_HallError : PySem.W.typeIn K (.ref HE) = some (.type "type"))
    (is_NoRow : PySem.W.isClsIn K NR = true)
    (is_NoName : PySem.W.isClsIn K NN = true)
    (is_NoNumber : PySem.W.isClsIn K NB = true)
    (is_NoRecipe : PySem.W.isClsIn K N = true)
    (is_Full : PySem.W.isClsIn K NF = true)
    (sb_NR_NR : PySem.W.subIn K (.ref NR) (.ref NR) = some true)
    (sb_NN_NR : PySem.W.subIn K (.ref NN) (.ref NR) = some false)
    (sb_NN_NN : PySem.W.subIn K (.ref NN) (.ref NN) = some true)
    (sb_NB_NR : PySem.W.subIn K (.ref NB) (.ref NR) = some false)
    (sb_NB_NN : PySem.W.subIn K (.ref NB) (.ref NN) = some false)
    (sb_NB_NB : PySem.W.subIn K (.ref NB) (.ref NB) = some true)
    (sb_N_NR : PySem.W.subIn K (.ref N) (.ref NR) = some false)
    (sb_N_NN : PySem.W.subIn K (.ref N) (.ref NN) = some false)
    (sb_N_NB : PySem.W.subIn K (.ref N) (.ref NB) = some false)
    (sb_N_N : PySem.W.subIn K (.ref N) (.ref N) = some true)
    (sb_NF_NR : PySem.W.subIn K (.ref NF) (.ref NR) = some false)
    (sb_NF_NN : PySem.W.subIn K (.ref NF) (.ref NN) = some false)
    (sb_NF_NB : PySem.W.subIn K (.ref NF) (.ref NB) = some false)
    (sb_NF_N : PySem.W.subIn K (.ref NF) (.ref N) = some false)
    (sb_NF_NF : PySem.W.subIn K (.ref NF) (.ref NF) = some true)
    (sb_NR_NN : PySem.W.subIn K (.ref NR) (.ref NN) = some false)
    (ne_NR_NN : (Value.ref NR == Value.ref NN) = false)
    (sb_NR_NB : PySem.W.subIn K (.ref NR) (.ref NB) = some false)
    (ne_NR_NB : (Value.ref NR == Value.ref NB) = false)
    (sb_NR_N : PySem.W.subIn K (.ref NR) (.ref N) = some false)
    (ne_NR_N : (Value.ref NR == Value.ref N) = false)
    (sb_NR_HE : PySem.W.subIn K (.ref NR) (.ref HE) = some true)
    (ne_NR_HE : (Value.ref NR == Value.ref HE) = false)
    (sb_NR_VE : PySem.W.subIn K (.ref NR) (.type "ValueError") = some true)
    : ∃ fd : FuncData, (∀ (s : Shared) (v : Value), BindsTo s fd ⟨[v], []⟩ [("_law_script", v)]) ∧ ∀ base : Heap, K.In base → base.Ns mainGlobals mg → FnOk l.prog w K mg base CX0 32 fa fd ["_law_script"] (spLaw K) := by
  have e := hfa.symm.trans (PySem.W.mg_of X G a_law)
  cases e
  have F_number_piece := fun_mk (st := s_number_piece) l_number_piece c_number_piece k_number_piece
  have b_number_piece := F_number_piece.binds (ps := ["number"]) fun _ _ _ _ _ _ us hl => match us, hl with | [_], _ => rfl
  have F_name_piece := fun_mk (st := s_name_piece) l_name_piece c_name_piece k_name_piece
  have b_name_piece := F_name_piece.binds (ps := ["name"]) fun _ _ _ _ _ _ us hl => match us, hl with | [_], _ => rfl
  have F_gate_piece := fun_mk (st := s_gate_piece) l_gate_piece c_gate_piece k_gate_piece
  have b_gate_piece := F_gate_piece.binds (ps := ["name", "bound", "piece"]) fun _ _ _ _ _ _ us hl => match us, hl with | [_, _, _], _ => rfl
  have F_joined_piece := fun_mk (st := s_joined_piece) l_joined_piece c_joined_piece k_joined_piece
  have b_joined_piece := F_joined_piece.binds (ps := ["kind", "pieces"]) fun _ _ _ _ _ _ us hl => match us, hl with | [_, _], _ => rfl
  have F_shown := fun_mk (st := s_shown) l_shown c_shown k_shown
  have b_shown := F_shown.binds (ps := ["recipe"]) fun _ _ _ _ _ _ us hl => match us, hl with | [_], _ => rfl
  have F_shown_within := fun_mk (st := s_shown_within) l_shown_within c_shown_within k_shown_within
  have b_shown_within := F_shown_within.binds (ps := ["kind", "piece"]) fun _ _ _ _ _ _ us hl => match us, hl with | [_, _], _ => rfl
  have F_Words_init := fun_mk (st := s_Words_init) l_Words_init c_Words_init k_Words_init
  have b_Words_init := F_Words_init.binds (ps := ["self", "words"]) fun _ _ _ _ _ _ us hl => match us, hl with | [_, _], _ => rfl
  have F_Words_ahead := fun_mk (st := s_Words_ahead) l_Words_ahead c_Words_ahead k_Words_ahead
  have b_Words_ahead := F_Words_ahead.binds (ps := ["self"]) fun _ _ _ _ _ _ us hl => match us, hl with | [_], _ => rfl
  have F_Words_taken := fun_mk (st := s_Words_taken) l_Words_taken c_Words_taken k_Words_taken
  have b_Words_taken := F_Words_taken.binds (ps := ["self"]) fun _ _ _ _ _ _ us hl => match us, hl with | [_], _ => rfl
  have F_Words_expect := fun_mk (st := s_Words_expect) l_Words_expect c_Words_expect k_Words_expect
  have b_Words_expect := F_Words_expect.binds (ps := ["self", "word"]) fun _ _ _ _ _ _ us hl => match us, hl with | [_, _], _ => rfl
  have F_read := fun_mk (st := s_read) l_read c_read k_read
  have b_read := F_read.binds (ps := ["text"]) fun _ _ _ _ _ _ us hl => match us, hl with | [_], _ => rfl
  have F_words_of := fun_mk (st := s_words_of) l_words_of c_words_of k_words_of
  have b_words_of := F_words_of.binds (ps := ["text"]) fun _ _ _ _ _ _ us hl => match us, hl with | [_], _ => rfl
  have F_kind_of := fun_mk (st := s_kind_of) l_kind_of c_kind_of k_kind_of
  have b_kind_of := F_kind_of.binds (ps := ["sign"]) fun _ _ _ _ _ _ us hl => match us, hl with | [_], _ => rfl
  have F_read_level := fun_mk (st := s_read_level) l_read_level c_read_level k_read_level
  have b_read_level := F_read_level.binds (ps := ["reader", "level", "deep"]) fun _ _ _ _ _ _ us hl => match us, hl with | [_, _, _], _ => rfl
  have F_read_piece := fun_mk (st := s_read_piece) l_read_piece c_read_piece k_read_piece
  have b_read_piece := F_read_piece.binds (ps := ["reader", "deep"]) fun _ _ _ _ _ _ us hl => match us, hl with | [_, _], _ => rfl
  have F_read_gate := fun_mk (st := s_read_gate) l_read_gate c_read_gate k_read_gate
  have b_read_gate := F_read_gate.binds (ps := ["reader", "deep"]) fun _ _ _ _ _ _ us hl => match us, hl with | [_, _], _ => rfl
  have F_is_name := fun_mk (st := s_is_name) l_is_name c_is_name k_is_name
  have b_is_name := F_is_name.binds (ps := ["text"]) fun _ _ _ _ _ _ us hl => match us, hl with | [_], _ => rfl
  have F_number_of := fun_mk (st := s_number_of) l_number_of c_number_of k_number_of
  have b_number_of := F_number_of.binds (ps := ["word", "lowest"]) fun _ _ _ _ _ _ us hl => match us, hl with | [_, _], _ => rfl
  have F_Hall_init := fun_mk (st := s_Hall_init) l_Hall_init c_Hall_init k_Hall_init
  have b_Hall_init := F_Hall_init.binds (ps := ["self"]) fun _ _ _ _ _ _ us hl => match us, hl with | [_], _ => rfl
  have F_Hall_put := fun_mk (st := s_Hall_put) l_Hall_put c_Hall_put k_Hall_put
  have b_Hall_put := F_Hall_put.binds (ps := ["self", "name", "number"]) fun _ _ _ _ _ _ us hl => match us, hl with | [_, _, _], _ => rfl
  have F_Hall_make := fun_mk (st := s_Hall_make) l_Hall_make c_Hall_make k_Hall_make
  have b_Hall_make := F_Hall_make.binds (ps := ["self", "name", "text"]) fun _ _ _ _ _ _ us hl => match us, hl with | [_, _, _], _ => rfl
  have F_Hall_check_room := fun_mk (st := s_Hall_check_room) l_Hall_check_room c_Hall_check_room k_Hall_check_room
  have b_Hall_check_room := F_Hall_check_room.binds (ps := ["self", "name"]) fun _ _ _ _ _ _ us hl => match us, hl with | [_, _], _ => rfl
  have F_Hall_wells := fun_mk (st := s_Hall_wells) l_Hall_wells c_Hall_wells k_Hall_wells
  have b_Hall_wells := F_Hall_wells.binds (ps := ["self"]) fun _ _ _ _ _ _ us hl => match us, hl with | [_], _ => rfl
  have F_Hall_works := fun_mk (st := s_Hall_works) l_Hall_works c_Hall_works k_Hall_works
  have b_Hall_works := F_Hall_works.binds (ps := ["self"]) fun _ _ _ _ _ _ us hl => match us, hl with | [_], _ => rfl
  have F_check_name := fun_mk (st := s_check_name) l_check_name c_check_name k_check_name
  have b_check_name := F_check_name.binds (ps := ["text"]) fun _ _ _ _ _ _ us hl => match us, hl with | [_], _ => rfl
  have F_do_row := fun_mk (st := s_do_row) l_do_row c_do_row k_do_row
  have b_do_row := F_do_row.binds (ps := ["hall", "row"]) fun _ _ _ _ _ _ us hl => match us, hl with | [_, _], _ => rfl
  have F_is_one_or_two_figures := fun_mk (st := s_is_one_or_two_figures) l_is_one_or_two_figures c_is_one_or_two_figures k_is_one_or_two_figures
  have b_is_one_or_two_figures := F_is_one_or_two_figures.binds (ps := ["text"]) fun _ _ _ _ _ _ us hl => match us, hl with | [_], _ => rfl
  have F_opened := fun_mk (st := s_opened) l_opened c_opened k_opened
  have b_opened := F_opened.binds (ps := ["rows"]) fun _ _ _ _ _ _ us hl => match us, hl with | [_], _ => rfl
  have F_law_cell_at := fun_mk (st := s_law_cell_at) l_law_cell_at c_law_cell_at k_law_cell_at
  have b_law_cell_at := F_law_cell_at.binds (ps := ["_law_script", "_law_k"]) fun _ _ _ _ _ _ us hl => match us, hl with | [_, _], _ => rfl
  have F_law_names := fun_mk (st := s_law_names) l_law_names c_law_names k_law_names
  have b_law_names := F_law_names.binds (ps := ["_law_cell", "_law_many"]) fun _ _ _ _ _ _ us hl => match us, hl with | [_, _], _ => rfl
  have F_law_row := fun_mk (st := s_law_row) l_law_row c_law_row k_law_row
  have b_law_row := F_law_row.binds (ps := ["_law_cell", "_law_name"]) fun _ _ _ _ _ _ us hl => match us, hl with | [_, _], _ => rfl
  have F_law_kind := fun_mk (st := s_law_kind) l_law_kind c_law_kind k_law_kind
  have b_law_kind := F_law_kind.binds (ps := ["_law_rows"]) fun _ _ _ _ _ _ us hl => match us, hl with | [_], _ => rfl
  have F_law_wells := fun_mk (st := s_law_wells) l_law_wells c_law_wells k_law_wells
  have b_law_wells := F_law_wells.binds (ps := ["_law_rows"]) fun _ _ _ _ _ _ us hl => match us, hl with | [_], _ => rfl
  have F_law := fun_mk (st := s_law) l_law c_law k_law
  have b_law := F_law.binds (ps := ["_law_script"]) fun _ _ _ _ _ _ us hl => match us, hl with | [_], _ => rfl
  have T : Txt K mg C N := ⟨⟨pg, hd, po, sa⟩, nW, nA, PySem.W.mg_of X G aC, xN, PySem.W.mg_of X G aN, kN, bN, tN, PySem.W.mg_none_of X G z_len, PySem.W.mg_none_of X G z_range, PySem.W.mg_none_of X G z_str, PySem.W.mg_none_of X G z_all, PySem.W.mg_none_of X G z_tuple,
    ⟨_, PySem.W.mg_of X G g1⟩, ⟨_, PySem.W.mg_of X G g2⟩, ⟨_, PySem.W.mg_of X G g3⟩, ⟨_, PySem.W.mg_of X G g4⟩, ⟨_, PySem.W.mg_of X G g5⟩, ⟨_, PySem.W.mg_of X G g6⟩, ⟨_, PySem.W.mg_of X G g7⟩, ⟨_, PySem.W.mg_of X G g8⟩, ⟨_, PySem.W.mg_of X G g9⟩⟩
  have TC : TxtC K mg w := ⟨⟨aL, PySem.W.mg_of X G gL, fun H => .inr ⟨_, _, _, lL, rfl, rfl, (by show 3 ≤ sizeLine; decide), .cons ⟨_, rfl⟩ (.cons ⟨_, rfl⟩ (.cons ⟨_, rfl⟩ .nil))⟩⟩,
    ⟨aS, PySem.W.mg_of X G gS, fun k => by
      cases k
      · exact ⟨esS, nS, _, lS, kS, s1, ⟨_, rfl⟩⟩
      · exact ⟨esS, nS, _, lS, kS, s2, ⟨_, rfl⟩⟩
      · exact ⟨esS, nS, _, lS, kS, s3, ⟨_, rfl⟩⟩⟩⟩
  have TL : TxtL K mg := ⟨PySem.W.mg_none_of X G z_len, PySem.W.mg_none_of X G z_int, PySem.W.mg_none_of X G z_range, PySem.W.mg_none_of X G z_str⟩
  refine ⟨PySem.W.fnOf "law" "law" (defArgs s_law) (defBody s_law) (defScope s_law) .none kV_law dc_law pm_law an_law cd_law ct_law, fun s v => .of_eq rfl, fun base _ _ => ?_⟩
  have GA : FnOk l.prog w K mg base CX0 1 f_Words_ahead _ ["self"] (spAhead C) := ok_ahead F_Words_ahead T
  have GT : FnOk l.prog w K mg base CX0 2 f_Words_taken _ ["self"] (spTaken C) := ok_taken F_Words_taken T F_Words_ahead b_Words_ahead ⟨a_Words_ahead, i_Words_ahead, k_Words_ahead⟩
  have GX : FnOk l.prog w K mg base (L2.CX l.prog w) 3 f_Words_expect _ ["self", "word"] (spExpect C N) := ok_expect F_Words_expect T GT b_Words_taken ⟨a_Words_taken, i_Words_taken, k_Words_taken⟩
  have LO : Low l.prog w K mg base C N := ⟨⟨_, _, GA, b_Words_ahead, ⟨a_Words_ahead, i_Words_ahead, k_Words_ahead⟩⟩, ⟨_, _, GT, b_Words_taken, ⟨a_Words_taken, i_Words_taken, k_Words_taken⟩⟩, ⟨_, _, GX, b_Words_expect, ⟨a_Words_expect, i_Words_expect, k_Words_expect⟩⟩,
    ⟨_, _, ok_name F_is_name T, b_is_name, k_is_name, PySem.W.mg_of X G a_is_name⟩, ⟨_, _, ok_number F_number_of T, b_number_of, k_number_of, PySem.W.mg_of X G a_number_of⟩,
    ⟨_, _, ok_numP F_number_piece, b_number_piece, k_number_piece, PySem.W.mg_of X G a_number_piece⟩, ⟨_, _, ok_nameP F_name_piece, b_name_piece, k_name_piece, PySem.W.mg_of X G a_name_piece⟩,
    ⟨_, _, ok_gateP F_gate_piece, b_gate_piece, k_gate_piece, PySem.W.mg_of X G a_gate_piece⟩, ⟨_, _, ok_joinP F_joined_piece T.tup, b_joined_piece, k_joined_piece, PySem.W.mg_of X G a_joined_piece⟩⟩
  have RE : Rec K mg f_read_level f_read_piece f_read_gate _ _ _ := ⟨F_read_level, F_read_piece, F_read_gate, b_read_level, b_read_piece, b_read_gate, PySem.W.mg_of X G a_read_level, PySem.W.mg_of X G a_read_piece, PySem.W.mg_of X G a_read_gate⟩
  have GK : FnOk l.prog w K mg base (L2.CX l.prog w) 1 f_kind_of _ ["sign"] (spKind N) := ok_kind F_kind_of T
  have GW : FnOk l.prog w K mg base (L2.CX l.prog w) 2 f_words_of _ ["text"] (spWords N) := ok_words F_words_of T GK b_kind_of k_kind_of (PySem.W.mg_of X G a_kind_of)
  have GI : FnOk l.prog w K mg base CX0 1 f_Words_init _ ["self", "words"] (spInit C) := ok_Winit F_Words_init T
  have GR : FnOk l.prog w K mg base (L2.CX l.prog w) 27 f_read _ ["text"] (spRead N) := ok_read F_read T TC LO RE ⟨mk, a_Words_init, i_Words_init, kc⟩ GI b_Words_init GW b_words_of k_words_of (PySem.W.mg_of X G a_words_of)
  obtain ⟨HCc, hHC⟩ : ∃ HCc : HC, HCc = ⟨C_Hall, C_Hall, C_Hall, []⟩ := ⟨_, rfl⟩
  have eh : HCc.h = C_Hall := by rw [hHC]
  have TH : TxtH K mg HCc := by
    rw [hHC]
    exact ⟨⟨pg_Hall, hd_Hall, po_Hall, sa_Hall⟩, n_Hall_numbers, n_Hall_recipes, n_Hall_kept, n_Hall_untaken, n_Hall_points, PySem.W.mg_none_of X G z_len, ⟨_, PySem.W.mg_of X G g1⟩, ⟨_, PySem.W.mg_of X G g_MOST_NAMES⟩⟩
  have TI : TxtI mg := ⟨PySem.W.mg_none_of X G z_len, PySem.W.mg_none_of X G z_all, ⟨_, PySem.W.mg_of X G g2⟩, ⟨_, PySem.W.mg_of X G g5⟩⟩
  have XN : Exc1 K mg "NoName" NN := ⟨xX_NoName, PySem.W.mg_of X G aX_NoName, kX_NoName, bX_NoName, tX_NoName⟩
  have XB : Exc1 K mg "NoNumber" NB := ⟨xX_NoNumber, PySem.W.mg_of X G aX_NoNumber, kX_NoNumber, bX_NoNumber, tX_NoNumber⟩
  have XF : Exc1 K mg "Full" NF := ⟨xX_Full, PySem.W.mg_of X G aX_Full, kX_Full, bX_Full, tX_Full⟩
  have zlen := PySem.W.mg_none_of X G z_len
  have zlist := PySem.W.mg_none_of X G z_list
  have zisi := PySem.W.mg_none_of X G z_isi
  have zint := PySem.W.mg_none_of X G z_int
  have zbool := PySem.W.mg_none_of X G z_bool
  have Gn : FnOk l.prog w K mg base CX0 1 f_is_name _ ["text"] spName := ok_isname F_is_name TI
  have Gc : FnOk l.prog w K mg base (L2.CX l.prog w) 2 f_check_name _ ["text"] (spCheck NN) := ok_check F_check_name XN Gn b_is_name k_is_name (PySem.W.mg_of X G a_is_name)
  have Gr : FnOk l.prog w K mg base (L2.CX l.prog w) 1 f_Hall_check_room _ ["self", "name"] (spRoom HCc NF) := ok_room F_Hall_check_room TH XF
  have mCR : Meth K HCc.h "check_room" f_Hall_check_room := by rw [eh]; exact ⟨a_Hall_check_room, i_Hall_check_room, k_Hall_check_room⟩
  have Gma : FnOk l.prog w K mg base (L2.CX l.prog w) 28 f_Hall_make _ ["self", "name", "text"] (spMake HCc NN N NF) := ok_make F_Hall_make TH Gc b_check_name k_check_name (PySem.W.mg_of X G a_check_name) Gr b_Hall_check_room mCR GR b_read k_read (PySem.W.mg_of X G a_read)
  have Gpu : FnOk l.prog w K mg base (L2.CX l.prog w) 3 f_Hall_put _ ["self", "name", "number"] (spPut HCc NN NB NF) := ok_put F_Hall_put TH XB Gc b_check_name k_check_name (PySem.W.mg_of X G a_check_name) Gr b_Hall_check_room mCR
  have Hpu : HmQ l.prog w K mg base (L2.CX l.prog w) HCc.h 3 "put" ["self", "name", "number"] (spPut HCc NN NB NF) _ _ := ⟨Gpu, b_Hall_put, by rw [eh]; exact ⟨a_Hall_put, i_Hall_put, k_Hall_put⟩⟩
  have Hma : HmQ l.prog w K mg base (L2.CX l.prog w) HCc.h 28 "make" ["self", "name", "text"] (spMake HCc NN N NF) _ _ := ⟨Gma, b_Hall_make, by rw [eh]; exact ⟨a_Hall_make, i_Hall_make, k_Hall_make⟩⟩
  have TB : TxtB K mg w := ⟨⟨aB, PySem.W.mg_of X G gB, fun o => by
    cases o with
    | none => exact ⟨bG, ⟨esB, nB, _, lB, kB, q1, rfl⟩, fun H => .inr ⟨_, _, _, r1, rfl, rfl, (by show 3 ≤ sizeLine; decide), .cons ⟨_, rfl⟩ (.cons ⟨_, rfl⟩ (.cons ⟨_, rfl⟩ .nil))⟩⟩
    | some k =>
      cases k
      · exact ⟨bS, ⟨esB, nB, _, lB, kB, q2, rfl⟩, fun H => .inr ⟨_, _, _, r2, rfl, rfl, (by show 3 ≤ sizeLine; decide), .cons ⟨_, rfl⟩ (.cons ⟨_, rfl⟩ (.cons ⟨_, rfl⟩ .nil))⟩⟩
      · exact ⟨bL, ⟨esB, nB, _, lB, kB, q3, rfl⟩, fun H => .inr ⟨_, _, _, r3, rfl, rfl, (by show 4 ≤ sizeLine; decide), .cons ⟨_, rfl⟩ (.cons ⟨_, rfl⟩ (.cons ⟨_, rfl⟩ (.cons ⟨_, rfl⟩ .nil)))⟩⟩
      · exact ⟨bM, ⟨esB, nB, _, lB, kB, q4, rfl⟩, fun H => .inr ⟨_, _, _, r4, rfl, rfl, (by show 5 ≤ sizeLine; decide), .cons ⟨_, rfl⟩ (.cons ⟨_, rfl⟩ (.cons ⟨_, rfl⟩ (.cons ⟨_, rfl⟩ (.cons ⟨_, rfl⟩ .nil))))⟩⟩⟩⟩
  have Gh0 : FnOk l.prog w K mg base CX0 1 f_shown _ ["recipe"] (spShown 0) := ok_shown0 F_shown T.str
  have Gi0 : FnOk l.prog w K mg base CX0 2 f_shown_within _ ["kind", "piece"] (spWithin 0) := ok_within F_shown_within TB Gh0 b_shown k_shown (PySem.W.mg_of X G a_shown)
  have Gh1 : FnOk l.prog w K mg base CX0 3 f_shown _ ["recipe"] (spShown 1) := ok_shownS (by decide) F_shown T.str TC Gi0 b_shown_within k_shown_within (PySem.W.mg_of X G a_shown_within)
  have Gi1 : FnOk l.prog w K mg base CX0 4 f_shown_within _ ["kind", "piece"] (spWithin 1) := ok_within F_shown_within TB Gh1 b_shown k_shown (PySem.W.mg_of X G a_shown)
  have Gh2 : FnOk l.prog w K mg base CX0 5 f_shown _ ["recipe"] (spShown 2) := ok_shownS (by decide) F_shown T.str TC Gi1 b_shown_within k_shown_within (PySem.W.mg_of X G a_shown_within)
  have zs := PySem.W.mg_none_of X G z_sorted
  have Hwe : HmQ l.prog w K mg base CX0 HCc.h 1 "wells" ["self"] (spWellsH HCc) _ _ := ⟨ok_wells F_Hall_wells TH zs, b_Hall_wells, by rw [eh]; exact ⟨a_Hall_wells, i_Hall_wells, k_Hall_wells⟩⟩
  have Hwo : HmQ l.prog w K mg base CX0 HCc.h 6 "works" ["self"] (spWorksH HCc) _ _ := ⟨ok_worksH F_Hall_works TH zs Gh2 b_shown k_shown (PySem.W.mg_of X G a_shown), b_Hall_works, by rw [eh]; exact ⟨a_Hall_works, i_Hall_works, k_Hall_works⟩⟩
  have XR : Exc1 K mg "NoRow" NR := ⟨xX_NoRow, PySem.W.mg_of X G aX_NoRow, kX_NoRow, bX_NoRow, tX_NoRow⟩
  have TGg : TxtG mg := ⟨zlen, PySem.W.mg_none_of X G z_all, zint, ⟨_, PySem.W.mg_of X G g3⟩⟩
  have Gfi : FnOk l.prog w K mg base CX0 1 f_is_one_or_two_figures _ ["text"] spFigs := ok_figs F_is_one_or_two_figures TGg
  have Gdr : FnOk l.prog w K mg base (L2.CX l.prog w) 29 f_do_row _ ["hall", "row"] (spDoRow HCc NN NB N NF NR) := ok_dorow F_do_row TH TGg XR Gfi b_is_one_or_two_figures k_is_one_or_two_figures (PySem.W.mg_of X G a_is_one_or_two_figures) Gpu b_Hall_put (by rw [eh]; exact ⟨a_Hall_put, i_Hall_put, k_Hall_put⟩) Gma b_Hall_make (by rw [eh]; exact ⟨a_Hall_make, i_Hall_make, k_Hall_make⟩)
  have Op := DfQ.mk (ok_opened F_opened Gdr b_do_row k_do_row (PySem.W.mg_of X G a_do_row) (by rw [eh]; exact ⟨mk_Hall, a_Hall_init, i_Hall_init, kc_Hall⟩) (by rw [eh]; exact PySem.W.mg_of X G aC_Hall) (ok_Hinit F_Hall_init TH) b_Hall_init) b_opened k_opened (PySem.W.mg_of X G a_opened)
  have E32 : Ex32 K NR NN NB N NF := ⟨exm_sub bX_NoRow is_NoRow tX_NoRow sb_NR_NR, exm_sub bX_NoRow is_NoRow tX_NoRow sb_NN_NR, exm_sub bX_NoName is_NoName tX_NoName sb_NN_NN, exm_sub bX_NoRow is_NoRow tX_NoRow sb_NB_NR, exm_sub bX_NoName is_NoName tX_NoName sb_NB_NN, exm_sub bX_NoNumber is_NoNumber tX_NoNumber sb_NB_NB, exm_sub bX_NoRow is_NoRow tX_NoRow sb_N_NR, exm_sub bX_NoName is_NoName tX_NoName sb_N_NN, exm_sub bX_NoNumber is_NoNumber tX_NoNumber sb_N_NB, exm_sub bN is_NoRecipe tN sb_N_N, exm_sub bX_NoRow is_NoRow tX_NoRow sb_NF_NR, exm_sub bX_NoName is_NoName tX_NoName sb_NF_NN, exm_sub bX_NoNumber is_NoNumber tX_NoNumber sb_NF_NB, exm_sub bN is_NoRecipe tN sb_NF_N, exm_sub bX_Full is_Full tX_Full sb_NF_NF, kit_cls ne_NR_NN is_NoName tX_NoName sb_NR_NN, kit_cls ne_NR_NB is_NoNumber tX_NoNumber sb_NR_NB, kit_cls ne_NR_N is_NoRecipe tN sb_NR_N⟩
  have T32 : Tx32 K mg NR NN NB N NF HE := ⟨PySem.W.mg_of X G aX_NoRow, PySem.W.mg_of X G aX_NoName, PySem.W.mg_of X G aX_NoNumber, PySem.W.mg_of X G aN, PySem.W.mg_of X G aX_Full, PySem.W.mg_of X G aX_HallError, PySem.W.mg_none_of X G z_ValueError, zisi, zint, ⟨cg_NoRow, ck_NoRow, bX_NoRow, cd_NoRow_, ca_NoRow, cn_NoRow, ct_NoRow_, cm_NoRow⟩, kit_cls ne_NR_HE is_HallError tX_HallError sb_NR_HE, kit_typ (by decide +kernel) sb_NR_VE⟩
  have Ce := DfQ.mk (P := l.prog) (w := w) (base := base) (ok_cell F_law_cell_at TL) b_law_cell_at k_law_cell_at (PySem.W.mg_of X G a_law_cell_at)
  have Nm' := DfQ.mk (P := l.prog) (w := w) (base := base) (ok_namesU F_law_names TL) b_law_names k_law_names (PySem.W.mg_of X G a_law_names)
  have Row := DfQ.mk (P := l.prog) (w := w) (base := base) (ok_row32 F_law_row TL) b_law_row k_law_row (PySem.W.mg_of X G a_law_row)
  have Ki := DfQ.mk (ok_kind32 F_law_kind E32 T32 Op) b_law_kind k_law_kind (PySem.W.mg_of X G a_law_kind)
  have Wl := DfQ.mk (P := l.prog) (w := w) (base := base) (ok_wells32 F_law_wells ⟨zint⟩) b_law_wells k_law_wells (PySem.W.mg_of X G a_law_wells)
  exact ok_law32 (C := HCc) F_law TL TH ⟨PySem.W.mg_none_of X G z_str, zint⟩ Ce Nm' Row Ki Op Wl Hwe Hwo
theorem walk {l : PySem.W.OpenLaw} {q : Program} {loose : List Str} {XP : (Str → Option Value) → Heap → Prop} {YP : World → Heap → Prop} {d : DefRec} {K : Params → PySem.W.Frag} (hn : l.most = some 63) (hdf : d.params.defaults = [])
    (hY : ∀ (w : World) (h : Heap), YP w h → (K w.params).In h)
    (F : ∀ (w : World) (mg : Str → Option Value) (fa : Addr) (h : Heap), (K w.params).In h → h.Ns mainGlobals mg → mg d.name = some (.ref fa) →
      ∃ fd : FuncData, (∀ (s : Shared) (u : Value), BindsTo s fd ⟨[u], []⟩ [("_law_script", u)]) ∧ ∀ base : Heap, (K w.params).In base → base.Ns mainGlobals mg → FnOk l.prog w (K w.params) mg base CX0 32 fa fd ["_law_script"] (spLaw (K w.params))) :
    PySem.W.WalkO q loose XP YP l.row.toRowW d [] (fun f vs => PySem.call f vs) :=
  L2.walk_of (n := 63) (k := 32) (x := "_law_script") (CX := fun _ => CX0) (sp := fun w => spLaw (K w.params)) hn (by decide) hdf ⟨rfl, by decide, by decide⟩ hY F (fun _ _ a ns hl _ hS => ⟨a, ns, rfl, hS, hl, fun _ => rfl⟩) fun _ _ _ _ _ z => z
end Aw
open PySem PySem.W PyProof.Rows
set_option maxRecDepth 100000 in
set_option maxHeartbeats 0 in
theorem PySem.Challenge.cw_anewhall_k32_book_refused_holds : PySem.Challenge.rw_anewhall_k32_book_refused.Holds := by
  w_on; o_law; k_head; (case hw => w_witness2)
  k_fill
  refine Aw.walk (l := PySem.Challenge.rw_anewhall_k32_book_refused) rfl rfl (fun w h Y => PySem.W.kIn_of Y) ?F
  case F =>
    intro w mg fa h KX G hmg
    refine' Aw.all_mk KX G hmg ?a_number_piece ?l_number_piece ?c_number_piece ?k_number_piece ?a_name_piece ?l_name_piece ?c_name_piece ?k_name_piece ?a_gate_piece ?l_gate_piece ?c_gate_piece ?k_gate_piece ?a_joined_piece ?l_joined_piece ?c_joined_piece ?k_joined_piece ?a_shown ?l_shown ?c_shown ?k_shown ?a_shown_within ?l_shown_within ?c_shown_within ?k_shown_within ?a_Words_init ?i_Words_init ?l_Words_init ?c_Words_init ?k_Words_init ?a_Words_ahead ?i_Words_ahead ?l_Words_ahead ?c_Words_ahead ?k_Words_ahead ?a_Words_taken ?i_Words_taken ?l_Words_taken ?c_Words_taken ?k_Words_taken ?a_Words_expect ?i_Words_expect ?l_Words_expect ?c_Words_expect ?k_Words_expect ?a_read ?l_read ?c_read ?k_read ?a_words_of ?l_words_of ?c_words_of ?k_words_of ?a_kind_of ?l_kind_of ?c_kind_of ?k_kind_of ?a_read_level ?l_read_level ?c_read_level ?k_read_level ?a_read_piece ?l_read_piece ?c_read_piece ?k_read_piece ?a_read_gate ?l_read_gate ?c_read_gate ?k_read_gate ?a_is_name ?l_is_name ?c_is_name ?k_is_name ?a_number_of ?l_number_of ?c_number_of ?k_number_of ?a_Hall_init ?i_Hall_init ?l_Hall_init ?c_Hall_init ?k_Hall_init ?a_Hall_put ?i_Hall_put ?l_Hall_put ?c_Hall_put ?k_Hall_put ?a_Hall_make ?i_Hall_make ?l_Hall_make ?c_Hall_make ?k_Hall_make ?a_Hall_check_room ?i_Hall_check_room ?l_Hall_check_room ?c_Hall_check_room ?k_Hall_check_room ?a_Hall_wells ?i_Hall_wells ?l_Hall_wells ?c_Hall_wells ?k_Hall_wells ?a_Hall_works ?i_Hall_works ?l_Hall_works ?c_Hall_works ?k_Hall_works ?a_check_name ?l_check_name ?c_check_name ?k_check_name ?a_do_row ?l_do_row ?c_do_row ?k_do_row ?a_is_one_or_two_figures ?l_is_one_or_two_figures ?c_is_one_or_two_figures ?k_is_one_or_two_figures ?a_opened ?l_opened ?c_opened ?k_opened ?a_law_cell_at ?l_law_cell_at ?c_law_cell_at ?k_law_cell_at ?a_law_names ?l_law_names ?c_law_names ?k_law_names ?a_law_row ?l_law_row ?c_law_row ?k_law_row ?a_law_kind ?l_law_kind ?c_law_kind ?k_law_kind ?a_law_wells ?l_law_wells ?c_law_wells ?k_law_wells ?a_law ?l_law ?c_law ?k_law ?aC ?pg ?hd ?po ?sa ?mk ?kc ?nW ?nA ?aN ?xN ?kN ?bN ?tN ?z_len ?z_range ?z_str ?z_all ?z_tuple ?z_int ?g1 ?g2 ?g3 ?g4 ?g5 ?g6 ?g7 ?g8 ?g9 ?gL ?lL ?gS ?lS ?kS ?s1 ?s2 ?s3 ?z_isi ?z_bool ?z_min ?z_max ?z_sum ?z_list ?aC_Hall ?pg_Hall ?hd_Hall ?po_Hall ?sa_Hall ?mk_Hall ?kc_Hall ?n_Hall_numbers ?n_Hall_recipes ?n_Hall_kept ?n_Hall_untaken ?n_Hall_points ?aX_NoName ?xX_NoName ?kX_NoName ?bX_NoName ?tX_NoName ?aX_NoNumber ?xX_NoNumber ?kX_NoNumber ?bX_NoNumber ?tX_NoNumber ?aX_Full ?xX_Full ?kX_Full ?bX_Full ?tX_Full ?z_any ?g_MOST_NAMES ?gB ?lB ?kB ?q1 ?q2 ?q3 ?q4 ?r1 ?r2 ?r3 ?r4 ?z_sorted ?aX_NoRow ?xX_NoRow ?kX_NoRow ?bX_NoRow ?tX_NoRow ?z_dict ?aX_HallError ?z_ValueError ?cg_NoRow ?ck_NoRow ?cd_NoRow_ ?ca_NoRow ?cn_NoRow ?ct_NoRow_ ?cm_NoRow ?is_HallError ?tX_HallError ?is_NoRow ?is_NoName ?is_NoNumber ?is_NoRecipe ?is_Full ?sb_NR_NR ?sb_NN_NR ?sb_NN_NN ?sb_NB_NR ?sb_NB_NN ?sb_NB_NB ?sb_N_NR ?sb_N_NN ?sb_N_NB ?sb_N_N ?sb_NF_NR ?sb_NF_NN ?sb_NF_NB ?sb_NF_N ?sb_NF_NF ?sb_NR_NN ?ne_NR_NN ?sb_NR_NB ?ne_NR_NB ?sb_NR_N ?ne_NR_N ?sb_NR_HE ?ne_NR_HE ?sb_NR_VE
    (case aC_Hall => k_is)
    (case aC => k_is)
    (case pg => k_is)
    (case hd => k_is)
    (case po => k_is)
    (case sa => k_is)
    (case mk => k_is)
    (case kc => k_is)
    (case nW => k_is)
    (case nA => k_is)
    (case aN => k_is)
    (case xN => k_exc)
    (case kN => k_is)
    (case bN => k_is)
    (case tN => k_is)
    (case z_len => k_is)
    (case z_range => k_is)
    (case z_str => k_is)
    (case z_all => k_is)
    (case z_tuple => k_is)
    (case z_int => k_is)
    (case g1 => k_is)
    (case g2 => k_is)
    (case g3 => k_is)
    (case g4 => k_is)
    (case g5 => k_is)
    (case g6 => k_is)
    (case g7 => k_is)
    (case g8 => k_is)
    (case g9 => k_is)
    (case gL => k_is)
    (case lL => k_is)
    (case gS => k_is)
    (case lS => k_is)
    (case kS => k_keys)
    (case s1 => k_is)
    (case s2 => k_is)
    (case s3 => k_is)
    (case z_isi => k_is)
    (case z_bool => k_is)
    (case z_min => k_is)
    (case z_max => k_is)
    (case z_sum => k_is)
    (case z_list => k_is)
    (case pg_Hall => k_is)
    (case hd_Hall => k_is)
    (case po_Hall => k_is)
    (case sa_Hall => k_is)
    (case mk_Hall => k_is)
    (case kc_Hall => k_is)
    (case n_Hall_numbers => k_is)
    (case n_Hall_recipes => k_is)
    (case n_Hall_kept => k_is)
    (case n_Hall_untaken => k_is)
    (case n_Hall_points => k_is)
    (case aX_NoName => k_is)
    (case xX_NoName => k_exc)
    (case kX_NoName => k_is)
    (case bX_NoName => k_is)
    (case tX_NoName => k_is)
    (case aX_NoNumber => k_is)
    (case xX_NoNumber => k_exc)
    (case kX_NoNumber => k_is)
    (case bX_NoNumber => k_is)
    (case tX_NoNumber => k_is)
    (case aX_Full => k_is)
    (case xX_Full => k_exc)
    (case kX_Full => k_is)
    (case bX_Full => k_is)
    (case tX_Full => k_is)
    (case z_any => k_is)
    (case g_MOST_NAMES => k_is)
    (case gB => k_is)
    (case lB => k_is)
    (case kB => k_keys)
    (case q1 => k_is)
    (case q2 => k_is)
    (case q3 => k_is)
    (case q4 => k_is)
    (case r1 => k_is)
    (case r2 => k_is)
    (case r3 => k_is)
    (case r4 => k_is)
    (case z_sorted => k_is)
    (case aX_NoRow => k_is)
    (case xX_NoRow => k_exc)
    (case kX_NoRow => k_is)
    (case bX_NoRow => k_is)
    (case tX_NoRow => k_is)
    (case z_dict => k_is)
    (case aX_HallError => k_is)
    (case z_ValueError => k_is)
    (case cg_NoRow => k_is)
    (case ck_NoRow => k_is)
    (case cd_NoRow_ => k_is)
    (case ca_NoRow => k_is)
    (case cn_NoRow => k_is)
    (case ct_NoRow_ => k_is)
    (case cm_NoRow => k_is)
    (case is_HallError => k_is)
    (case tX_HallError => k_is)
    (case is_NoRow => k_is)
    (case is_NoName => k_is)
    (case is_NoNumber => k_is)
    (case is_NoRecipe => k_is)
    (case is_Full => k_is)
    (case sb_NR_NR => k_is)
    (case sb_NN_NR => k_is)
    (case sb_NN_NN => k_is)
    (case sb_NB_NR => k_is)
    (case sb_NB_NN => k_is)
    (case sb_NB_NB => k_is)
    (case sb_N_NR => k_is)
    (case sb_N_NN => k_is)
    (case sb_N_NB => k_is)
    (case sb_N_N => k_is)
    (case sb_NF_NR => k_is)
    (case sb_NF_NN => k_is)
    (case sb_NF_NB => k_is)
    (case sb_NF_N => k_is)
    (case sb_NF_NF => k_is)
    (case sb_NR_NN => k_is)
    (case ne_NR_NN => rfl)
    (case sb_NR_NB => k_is)
    (case ne_NR_NB => rfl)
    (case sb_NR_N => k_is)
    (case ne_NR_N => rfl)
    (case sb_NR_HE => k_is)
    (case ne_NR_HE => rfl)
    (case sb_NR_VE => k_is)
    (case a_number_piece => k_is)
    (case l_number_piece => k_is)
    (case c_number_piece => k_is)
    (case k_number_piece => k_is)
    (case a_name_piece => k_is)
    (case l_name_piece => k_is)
    (case c_name_piece => k_is)
    (case k_name_piece => k_is)
    (case a_gate_piece => k_is)
    (case l_gate_piece => k_is)
    (case c_gate_piece => k_is)
    (case k_gate_piece => k_is)
    (case a_joined_piece => k_is)
    (case l_joined_piece => k_is)
    (case c_joined_piece => k_is)
    (case k_joined_piece => k_is)
    (case a_shown => k_is)
    (case l_shown => k_is)
    (case c_shown => k_is)
    (case k_shown => k_is)
    (case a_shown_within => k_is)
    (case l_shown_within => k_is)
    (case c_shown_within => k_is)
    (case k_shown_within => k_is)
    (case a_Words_init => k_is)
    (case i_Words_init => k_is)
    (case l_Words_init => k_is)
    (case c_Words_init => k_is)
    (case k_Words_init => k_is)
    (case a_Words_ahead => k_is)
    (case i_Words_ahead => k_is)
    (case l_Words_ahead => k_is)
    (case c_Words_ahead => k_is)
    (case k_Words_ahead => k_is)
    (case a_Words_taken => k_is)
    (case i_Words_taken => k_is)
    (case l_Words_taken => k_is)
    (case c_Words_taken => k_is)
    (case k_Words_taken => k_is)
    (case a_Words_expect => k_is)
    (case i_Words_expect => k_is)
    (case l_Words_expect => k_is)
    (case c_Words_expect => k_is)
    (case k_Words_expect => k_is)
    (case a_read => k_is)
    (case l_read => k_is)
    (case c_read => k_is)
    (case k_read => k_is)
    (case a_words_of => k_is)
    (case l_words_of => k_is)
    (case c_words_of => k_is)
    (case k_words_of => k_is)
    (case a_kind_of => k_is)
    (case l_kind_of => k_is)
    (case c_kind_of => k_is)
    (case k_kind_of => k_is)
    (case a_read_level => k_is)
    (case l_read_level => k_is)
    (case c_read_level => k_is)
    (case k_read_level => k_is)
    (case a_read_piece => k_is)
    (case l_read_piece => k_is)
    (case c_read_piece => k_is)
    (case k_read_piece => k_is)
    (case a_read_gate => k_is)
    (case l_read_gate => k_is)
    (case c_read_gate => k_is)
    (case k_read_gate => k_is)
    (case a_is_name => k_is)
    (case l_is_name => k_is)
    (case c_is_name => k_is)
    (case k_is_name => k_is)
    (case a_number_of => k_is)
    (case l_number_of => k_is)
    (case c_number_of => k_is)
    (case k_number_of => k_is)
    (case a_Hall_init => k_is)
    (case i_Hall_init => k_is)
    (case l_Hall_init => k_is)
    (case c_Hall_init => k_is)
    (case k_Hall_init => k_is)
    (case a_Hall_put => k_is)
    (case i_Hall_put => k_is)
    (case l_Hall_put => k_is)
    (case c_Hall_put => k_is)
    (case k_Hall_put => k_is)
    (case a_Hall_make => k_is)
    (case i_Hall_make => k_is)
    (case l_Hall_make => k_is)
    (case c_Hall_make => k_is)
    (case k_Hall_make => k_is)
    (case a_Hall_check_room => k_is)
    (case i_Hall_check_room => k_is)
    (case l_Hall_check_room => k_is)
    (case c_Hall_check_room => k_is)
    (case k_Hall_check_room => k_is)
    (case a_Hall_wells => k_is)
    (case i_Hall_wells => k_is)
    (case l_Hall_wells => k_is)
    (case c_Hall_wells => k_is)
    (case k_Hall_wells => k_is)
    (case a_Hall_works => k_is)
    (case i_Hall_works => k_is)
    (case l_Hall_works => k_is)
    (case c_Hall_works => k_is)
    (case k_Hall_works => k_is)
    (case a_check_name => k_is)
    (case l_check_name => k_is)
    (case c_check_name => k_is)
    (case k_check_name => k_is)
    (case a_do_row => k_is)
    (case l_do_row => k_is)
    (case c_do_row => k_is)
    (case k_do_row => k_is)
    (case a_is_one_or_two_figures => k_is)
    (case l_is_one_or_two_figures => k_is)
    (case c_is_one_or_two_figures => k_is)
    (case k_is_one_or_two_figures => k_is)
    (case a_opened => k_is)
    (case l_opened => k_is)
    (case c_opened => k_is)
    (case k_opened => k_is)
    (case a_law_cell_at => k_is)
    (case l_law_cell_at => k_is)
    (case c_law_cell_at => k_is)
    (case k_law_cell_at => k_is)
    (case a_law_names => k_is)
    (case l_law_names => k_is)
    (case c_law_names => k_is)
    (case k_law_names => k_is)
    (case a_law_row => k_is)
    (case l_law_row => k_is)
    (case c_law_row => k_is)
    (case k_law_row => k_is)
    (case a_law_kind => k_is)
    (case l_law_kind => k_is)
    (case c_law_kind => k_is)
    (case k_law_kind => k_is)
    (case a_law_wells => k_is)
    (case l_law_wells => k_is)
    (case c_law_wells => k_is)
    (case k_law_wells => k_is)
    (case a_law => k_is)
    (case l_law => k_is)
    (case c_law => k_is)
    (case k_law => k_is)

