import PyProof.Rows.All
import Wide.All
import OpenK.AllK
import Wide.FinOn
import HandS.ForMost
import HandS.Exc
import HandS.TryOnly
import HandS.ExcOwn
import HandS.WordsExc
import HandS.Wide
import HandS.FStr
import HandS.RaiseMore
import HandS.WrittenGet
import HandS.Walk
import HandS.Steps
import HandS.Style
import HandS.Flow
import HandS.Conv
import HandS.DictComp
import HandS.IsInst
import HandS.Nested
import HandS.Dict
import HandS.Comp
import HandS.DeepEq
import HandS.Codes
import HandS.Deep
import PySem.Challenge.RW_anewhall_k07_knots_of_names
set_option Elab.async false
set_option linter.all false
set_option maxRecDepth 100000
namespace Aw
open PySem L2
/-! ### the mirror: trees, words, the parser, the lexer -/
inductive Kd where
  | sum | least | most
  deriving DecidableEq
def Kd.nm : Kd → Str
  | .sum => "sum"
  | .least => "least"
  | .most => "most"
def Kd.sg : Kd → Str
  | .sum => "+"
  | .least => "&"
  | .most => "|"
inductive T where
  | num (n : Int)
  | name (s : Str)
  | gate (s : Str) (b : Int) (t : T)
  | join (k : Kd) (ts : List T)
/-- a whole number's text -/
def tx (i : Int) : Str := toString i
def wd (ws : List Str) (i : Nat) : Str := ws.getD i Str.empty
def LET : List Nat := (("abcdefghijklmnopqrstuvwxyz" : Str)).cps.toList
def FIG : List Nat := (("0123456789" : Str)).cps.toList
def OTH : List Nat := (("+&|()[]" : Str)).cps.toList
def nameM (s : Str) : Bool := decide (1 ≤ s.length ∧ s.length ≤ 6) && s.cps.toList.all fun c => decide (c ∈ LET)
def numM (lo : Int) (w : Str) : Option Int := ((List.range (31 - lo).toNat).find? fun i => decide (w = tx (lo + (i : Nat)))).map fun i => lo + (i : Nat)
section
variable (ws : List Str)
def chainM (f : Nat → Option (T × Nat)) (sg : Str) : Nat → List T → Nat → Option (List T × Nat)
  | 0, _, _ => none
  | n + 1, ts, j => if wd ws j = sg then
      match f (j + 1) with
      | none => none
      | some (t, j') => chainM f sg n (ts ++ [t]) j'
    else some (ts, j)
/-- what the chain of pieces comes to -/
def joinM (k : Kd) (ts : List T) : Option T := if 8 < ts.length then none else
  match ts with
  | [t] => some t
  | _ => some (.join k ts)
def levelM (f : Nat → Option (T × Nat)) : List Kd → Nat → Option (T × Nat)
  | [], i => f i
  | k :: ks, i =>
    match levelM f ks i with
    | none => none
    | some (t, j) =>
      match chainM ws (levelM f ks) k.sg (ws.length + 1) [t] j with
      | none => none
      | some (ts, j') => (joinM k ts).map fun t => (t, j')
def kinds : List Kd := [.most, .least, .sum]
def gateM (f : Nat → Option (T × Nat)) (i : Nat) : Option (T × Nat) :=
  if nameM (wd ws i) = true then
    match numM 1 (wd ws (i + 1)) with
    | none => none
    | some b => if wd ws (i + 2) = "]" then (f (i + 3)).map fun r => (.gate (wd ws i) b r.1, r.2) else none
  else none
def pieceM : Nat → Nat → Option (T × Nat)
  | 0, _ => none
  | d + 1, i =>
    if wd ws i = "(" then
      match levelM ws (pieceM d) kinds (i + 1) with
      | none => none
      | some (t, j) => if wd ws j = ")" then some (t, j + 1) else none
    else if wd ws i = "[" then gateM ws (pieceM d) (i + 1)
    else if nameM (wd ws i) = true then some (.name (wd ws i), i + 1)
    else (numM 0 (wd ws i)).map fun n => (.num n, i + 1)
end
inductive Kn where
  | letter | figure | other | blank
  deriving DecidableEq
def Kn.nm : Kn → Str
  | .letter => "letter"
  | .figure => "figure"
  | .other => "other"
  | .blank => "blank"
def sg1 (c : Nat) : Str := ⟨#[c]⟩
def kindM (c : Nat) : Option Kn :=
  if c ∈ LET then some .letter else if c ∈ FIG then some .figure else if c ∈ OTH then some .other else if sg1 c = " " then some .blank else none
def addLast (ws : List Str) (c : Nat) : List Str := ws.set (ws.length - 1) (wd ws (ws.length - 1) ++ sg1 c)
def lexStep (st : List Str × Kn) (c : Nat) (k : Kn) : List Str :=
  if k = st.2 ∧ (k = .letter ∨ k = .figure) then addLast st.1 c else if k ≠ .blank then st.1 ++ [sg1 c] else st.1
def lexGo : List Nat → List Str → Kn → Option (List Str)
  | [], ws, _ => some ws
  | c :: r, ws, b =>
    match kindM c with
    | none => none
    | some k => lexGo r (lexStep (ws, b) c k) k
def lexM (z : Str) : Option (List Str) := lexGo z.cps.toList [] .blank
def readM (z : Str) : Option T :=
  if 400 < z.length then none else
  match lexM z with
  | none => none
  | some ws => if 40 < ws.length then none else
    match levelM ws (pieceM ws 3) kinds 0 with
    | none => none
    | some (t, j) => if wd ws j = Str.empty then some t else none
/-! ### the heap -/
/-- all but what stands at p is as it was -/
def But (p : Addr) (H H' : Hp) : Prop := ∀ b o, H b = some o → b ≠ p → H' b = some o
theorem But.refl (p : Addr) (H : Hp) : But p H H := fun _ _ h _ => h
theorem But.trans {p : Addr} {H H1 H2 : Hp} (a : But p H H1) (b : But p H1 H2) : But p H H2 := fun c o h hc => b c o (a c o h hc) hc
theorem But.of_same {p : Addr} {H H1 : Hp} (a : Same H H1) : But p H H1 := fun c o h _ => a c o h
theorem same_new {H : Hp} {p : Addr} (h : H p = none) (o : HO) : Same H (upd H p o) := fun b u q => by rw [upd_ne (ne_of_none q h)]; exact q
theorem same_upd {H H1 : Hp} {D : Addr} (s : Same H H1) (hD : H D = none) (o : HO) : Same H (upd H1 D o) := fun b u q => by rw [upd_ne (ne_of_none q hD)]; exact s b u q
theorem take_more {α : Type} : ∀ {l : List α} {i : Nat} {x : α}, l[i]? = some x → l.take (i + 1) = l.take i ++ [x]
  | [], i, x, h => by simp at h
  | a :: l, 0, x, h => by
    have e : a = x := Option.some.inj h
    subst e
    rfl
  | a :: l, i + 1, x, h => by
    have ih := take_more (l := l) (i := i) (x := x) h
    show a :: l.take (i + 1) = a :: l.take i ++ [x]
    rw [ih]
    rfl
theorem But.upd {p : Addr} {H : Hp} (o : HO) : But p H (upd H p o) := fun b u q hb => by rw [upd_ne hb]; exact q
mutual
inductive TA (H : Hp) : V → T → Prop
  | num {a : Addr} {n : Int} : H a = some (.tup [.str "number", .int n]) → TA H (.ref a) (.num n)
  | name {a : Addr} {s : Str} : H a = some (.tup [.str "name", .str s]) → TA H (.ref a) (.name s)
  | gate {a : Addr} {s : Str} {b : Int} {v : V} {t : T} : H a = some (.tup [.str "gate", .str s, .int b, v]) → TA H v t → TA H (.ref a) (.gate s b t)
  | join {a p : Addr} {k : Kd} {vs : List V} {ts : List T} : H a = some (.tup [.str k.nm, .ref p]) → H p = some (.tup vs) → TAs H vs ts → TA H (.ref a) (.join k ts)
inductive TAs (H : Hp) : List V → List T → Prop
  | nil : TAs H [] []
  | cons {v : V} {t : T} {vs : List V} {ts : List T} : TA H v t → TAs H vs ts → TAs H (v :: vs) (t :: ts)
end
/-- every tuple stays -/
def Tups (H H' : Hp) : Prop := ∀ b xs, H b = some (.tup xs) → H' b = some (.tup xs)
theorem Tups.of_same {H H' : Hp} (h : Same H H') : Tups H H' := fun b _ q => h b _ q
theorem Tups.of_but {H H' : Hp} {p : Addr} (h : But p H H') (hp : ∀ xs, H p ≠ some (.tup xs)) : Tups H H' := fun b xs q => h b _ q fun e => hp xs (e ▸ q)
mutual
theorem TA.mono {H H' : Hp} (h : Tups H H') : ∀ {v : V} {t : T}, TA H v t → TA H' v t
  | _, _, .num e => .num (h _ _ e)
  | _, _, .name e => .name (h _ _ e)
  | _, _, .gate e q => .gate (h _ _ e) (TA.mono h q)
  | _, _, .join e e2 q => .join (h _ _ e) (h _ _ e2) (TAs.mono h q)
theorem TAs.mono {H H' : Hp} (h : Tups H H') : ∀ {v : List V} {t : List T}, TAs H v t → TAs H' v t
  | _, _, .nil => .nil
  | _, _, .cons a b => .cons (TA.mono h a) (TAs.mono h b)
end
theorem TAs.length {H : Hp} {vs : List V} {ts : List T} (h : TAs H vs ts) : vs.length = ts.length := by
  induction vs generalizing ts with
  | nil => cases h; rfl
  | cons v r ih => cases h with | cons a b => rw [List.length_cons, List.length_cons, ih b]
theorem TAs.snoc {H : Hp} {v : V} {t : T} (h1 : TA H v t) : ∀ {vs : List V} {ts : List T}, TAs H vs ts → TAs H (vs ++ [v]) (ts ++ [t])
  | _, _, .nil => .cons h1 .nil
  | _, _, .cons a b => .cons a (TAs.snoc h1 b)
theorem TAs.get {H : Hp} : ∀ {vs : List V} {ts : List T} {i : Nat} {v : V}, TAs H vs ts → vs[i]? = some v → ∃ t, ts[i]? = some t ∧ TA H v t
  | _, _, i, v, .nil, h => by simp at h
  | _, _, 0, v, .cons a b, h => ⟨_, rfl, by have e := Option.some.inj h; exact e ▸ a⟩
  | _, _, i + 1, v, .cons a b, h => by
    obtain ⟨t, h1, h2⟩ := TAs.get b (i := i) (v := v) (by simpa using h)
    exact ⟨t, by simpa using h1, h2⟩
/-! ### the reader of words -/
def rflds (l : Addr) (i : Nat) : List (Str × V) := putF "at" (.int i) (putF "words" (.ref l) [])
theorem wa : ¬ (("words" : Str) = "at") := by decide +kernel
theorem rflds_words (l : Addr) (i : Nat) : (rflds l i).lookup ("words" : Str) = some (.ref l) := by
  unfold rflds
  rw [lookup_putF, if_neg wa, lookup_putF, if_pos rfl]
theorem rflds_at (l : Addr) (i : Nat) : (rflds l i).lookup ("at" : Str) = some (.int i) := by
  unfold rflds
  rw [lookup_putF, if_pos rfl]
theorem rflds_no (l : Addr) (i : Nat) {m : Str} (h1 : ¬ m = "at") (h2 : ¬ m = "words") : (rflds l i).lookup m = none := by
  unfold rflds
  rw [lookup_putF, if_neg h1, lookup_putF, if_neg h2]
  all_goals rfl
theorem rflds_eq (l : Addr) (i : Nat) : rflds l i = ([("words", V.ref l), ("at", V.int i)] : List (Str × V)) := by
  show (if ("words" : Str) = "at" then [(("words" : Str), V.int i)] else (("words" : Str), V.ref l) :: putF "at" (V.int i) []) = ([("words", V.ref l), ("at", V.int i)] : List (Str × V))
  rw [if_neg wa]
  all_goals rfl
theorem rflds_put (l : Addr) (i : Nat) {z : Int} (hz : z = ((i + 1 : Nat) : Int)) : putF "at" (.int z) (rflds l i) = rflds l (i + 1) := by
  subst hz
  rw [rflds_eq, rflds_eq]
  show (if ("words" : Str) = "at" then _ else (("words" : Str), V.ref l) :: (if ("at" : Str) = "at" then [(("at" : Str), V.int ((i + 1 : Nat) : Int))] else _)) = ([("words", V.ref l), ("at", V.int ((i + 1 : Nat) : Int))] : List (Str × V))
  rw [if_neg wa, if_pos rfl]
structure RdAt (C p l : Addr) (ws : List Str) (i : Nat) (H : Hp) : Prop where
  ob : ∃ dx, H p = some (.ins C dx (rflds l i))
  ls : H l = some (.lst (ws.map V.str))
  ln : ws.length ≤ 1000
theorem RdAt.mono {C p l : Addr} {ws : List Str} {i : Nat} {H H' : Hp} (h : RdAt C p l ws i H) (s : Same H H') : RdAt C p l ws i H' := by
  obtain ⟨dx, e⟩ := h.ob
  exact ⟨⟨dx, s _ _ e⟩, s _ _ h.ls, h.ln⟩
theorem RdAt.tups {C p l : Addr} {ws : List Str} {i : Nat} {H H' : Hp} (h : RdAt C p l ws i H) (s : But p H H') : Tups H H' := by
  obtain ⟨dx, e⟩ := h.ob
  exact Tups.of_but s fun xs q => by rw [e] at q; cases q
theorem RdAt.keep {C p l : Addr} {ws : List Str} {i : Nat} {H H' : Hp} (h : RdAt C p l ws i H) (s : But p H H') {a : Addr} {xs : List V} (e : H a = some (.lst xs)) : H' a = some (.lst xs) := by
  obtain ⟨dx, e1⟩ := h.ob
  exact s _ _ e (ne_of e e1 (by intro z; cases z))
theorem RdAt.ne_new {C p l : Addr} {ws : List Str} {i : Nat} {H : Hp} (h : RdAt C p l ws i H) {a : Addr} (e : H a = none) : p ≠ a := by
  obtain ⟨dx, e1⟩ := h.ob
  exact ne_of_none e1 e
theorem wd_get {ws : List Str} {i : Nat} (h : i < ws.length) : ws[i]? = some (wd ws i) := by
  unfold wd
  rw [List.getD_eq_getElem?_getD, List.getElem?_eq_getElem h]
  rfl
theorem wd_end {ws : List Str} {i : Nat} (h : ¬ i < ws.length) : wd ws i = Str.empty := by
  unfold wd
  rw [List.getD_eq_getElem?_getD, List.getElem?_eq_none (by omega)]
  rfl
theorem wd_lt {ws : List Str} {i : Nat} {s : Str} (h : wd ws i = s) (hs : ¬ Str.empty = s) : i < ws.length := by
  rcases Nat.lt_or_ge i ws.length with q | q
  · exact q
  · exact absurd ((wd_end (by omega)).symm.trans h) hs
/-! ### the promises of the reading -/
def spInit (C : Addr) : Sp := fun vs H Q _ => ∃ (p dx l : Addr), vs = [.ref p, .ref l] ∧ H p = some (.ins C dx []) ∧ ∀ (H' : Hp), H' p = some (.ins C dx (rflds l 0)) → But p H H' → Q .non H'
def spAhead (C : Addr) : Sp := fun vs H Q _ => ∃ p l ws i, vs = [.ref p] ∧ RdAt C p l ws i H ∧ Q (.str (wd ws i)) H
def spTaken (C : Addr) : Sp := fun vs H Q _ => ∃ p l ws i, vs = [.ref p] ∧ RdAt C p l ws i H ∧ ∀ H', But p H H' → RdAt C p l ws (i + 1) H' → Q (.str (wd ws i)) H'
def spExpect (C N : Addr) : Sp := fun vs H Q E => ∃ p l ws i z, vs = [.ref p, .str z] ∧ RdAt C p l ws i H ∧ z.length ≤ 1000 ∧ (∀ w ∈ ws, w.length ≤ 1000) ∧
  (wd ws i = z → ∀ H', But p H H' → RdAt C p l ws (i + 1) H' → Q .non H') ∧ (¬ wd ws i = z → ∀ H', But p H H' → E (.ref N) none H')
def spName : Sp := fun vs H Q _ => ∃ z, vs = [.str z] ∧ z.length ≤ 1000 ∧ ∀ H', Same H H' → Q (.bl (nameM z)) H'
def spNum (N : Addr) : Sp := fun vs H Q E => ∃ z lo, vs = [.str z, .int lo] ∧ 0 ≤ lo ∧ lo ≤ 30 ∧ (∀ n, numM lo z = some n → Q (.int n) H) ∧ (numM lo z = none → E (.ref N) none H)
def spKind (N : Addr) : Sp := fun vs H Q E => ∃ c, vs = [.str (sg1 c)] ∧ (∀ k, kindM c = some k → Q (.str k.nm) H) ∧ (kindM c = none → E (.ref N) none H)
def spWords (N : Addr) : Sp := fun vs H Q E => ∃ z, vs = [.str z] ∧ z.length ≤ 1000 ∧ (∀ ws, lexM z = some ws → ∀ l H', Same H H' → H l = none → H' l = some (.lst (ws.map V.str)) → Q (.ref l) H') ∧ (lexM z = none → ∀ H', Same H H' → E (.ref N) none H')
/-- a reading of a piece from the word at i on -/
def RdOut (C N p l : Addr) (ws : List Str) (H : Hp) (Q : VK) (E : XK) : Option (T × Nat) → Prop
  | some (t, j) => ∀ v H', But p H H' → RdAt C p l ws j H' → TA H' v t → Q v H'
  | none => ∀ H', But p H H' → E (.ref N) none H'
structure WsOk (ws : List Str) : Prop where
  ws : ∀ w ∈ ws, w.length ≤ 1000
theorem WsOk.wd {ws : List Str} (h : WsOk ws) (i : Nat) : (wd ws i).length ≤ 1000 := by
  rcases Nat.lt_or_ge i ws.length with q | q
  · exact h.ws _ (List.mem_of_getElem? (wd_get q))
  · rw [wd_end (by omega)]; exact Nat.zero_le _
def spLevel (C N : Addr) (ks : List Kd) (f : List Str → Nat → Option (T × Nat)) (lv dp : Int) : Sp := fun vs H Q E => ∃ p l ws i, vs = [.ref p, .int lv, .int dp] ∧ RdAt C p l ws i H ∧ WsOk ws ∧ RdOut C N p l ws H Q E (levelM ws (f ws) ks i)
def spPiece (C N : Addr) (f : List Str → Nat → Option (T × Nat)) (dp : Int) : Sp := fun vs H Q E => ∃ p l ws i, vs = [.ref p, .int dp] ∧ RdAt C p l ws i H ∧ WsOk ws ∧ RdOut C N p l ws H Q E (f ws i)
def spRead (N : Addr) : Sp := fun vs H Q E => ∃ z, vs = [.str z] ∧ (z.length ≤ sizeLine) ∧ (∀ t, readM z = some t → ∀ v H', Same H H' → TA H' v t → Q v H') ∧ (readM z = none → ∀ H', Same H H' → E (.ref N) none H')
end Aw

namespace Aw
open PySem L2
/-! ### the law's own trees (lists in the place of tuples), dice, names -/
mutual
inductive LA (H : Hp) : V → T → Prop
  | num {a : Addr} {n : Int} : H a = some (.tup [.str "number", .int n]) → LA H (.ref a) (.num n)
  | name {a : Addr} {s : Str} : H a = some (.tup [.str "name", .str s]) → LA H (.ref a) (.name s)
  | gate {a : Addr} {s : Str} {b : Int} {v : V} {t : T} : H a = some (.tup [.str "gate", .str s, .int b, v]) → LA H v t → LA H (.ref a) (.gate s b t)
  | join {a p : Addr} {k : Kd} {vs : List V} {ts : List T} : H a = some (.tup [.str k.nm, .ref p]) → H p = some (.lst vs) → 0 < ts.length → LAs H vs ts → LA H (.ref a) (.join k ts)
inductive LAs (H : Hp) : List V → List T → Prop
  | nil : LAs H [] []
  | cons {v : V} {t : T} {vs : List V} {ts : List T} : LA H v t → LAs H vs ts → LAs H (v :: vs) (t :: ts)
end
theorem LA.isRef {H : Hp} {v : V} {t : T} (h : LA H v t) : ∃ a, v = .ref a := by
  cases h <;> exact ⟨_, rfl⟩
theorem LAs.headRef {H : Hp} {vs : List V} {ts : List T} (h : LAs H vs ts) (h0 : 0 < ts.length) : ∃ a r, vs = .ref a :: r := by
  cases h with
  | nil => exact absurd h0 (Nat.lt_irrefl 0)
  | cons a b =>
    obtain ⟨x, rfl⟩ := a.isRef
    exact ⟨x, _, rfl⟩
/-- tuples stay, and lists that begin with an object -/
def Keep (H H' : Hp) : Prop := (∀ b xs, H b = some (.tup xs) → H' b = some (.tup xs)) ∧ ∀ b a r, H b = some (.lst (.ref a :: r)) → H' b = some (.lst (.ref a :: r))
theorem Keep.of_same {H H' : Hp} (h : Same H H') : Keep H H' := ⟨fun b _ q => h b _ q, fun b _ _ q => h b _ q⟩
theorem Keep.of_but {H H' : Hp} {p : Addr} (h : But p H H') (hp : ∃ i r, H p = some (.lst (.int i :: r))) : Keep H H' := by
  obtain ⟨i, r, e⟩ := hp
  refine ⟨fun b xs q => h b _ q (fun z => ?_), fun b a r' q => h b _ q (fun z => ?_)⟩
  · subst z; rw [e] at q; cases q
  · subst z; rw [e] at q; cases q
mutual
theorem LA.mono {H H' : Hp} (h : Keep H H') : ∀ {v : V} {t : T}, LA H v t → LA H' v t
  | _, _, .num e => .num (h.1 _ _ e)
  | _, _, .name e => .name (h.1 _ _ e)
  | _, _, .gate e q => .gate (h.1 _ _ e) (LA.mono h q)
  | _, _, .join e e2 h0 q => .join (h.1 _ _ e) (by obtain ⟨a, r, rfl⟩ := q.headRef h0; exact h.2 _ _ _ e2) h0 (LAs.mono h q)
theorem LAs.mono {H H' : Hp} (h : Keep H H') : ∀ {v : List V} {t : List T}, LAs H v t → LAs H' v t
  | _, _, .nil => .nil
  | _, _, .cons a b => .cons (LA.mono h a) (LAs.mono h b)
end
theorem LAs.length {H : Hp} {vs : List V} {ts : List T} (h : LAs H vs ts) : vs.length = ts.length := by
  induction vs generalizing ts with
  | nil => cases h; rfl
  | cons v r ih => cases h with | cons a b => rw [List.length_cons, List.length_cons, ih b]
theorem LAs.snoc {H : Hp} {v : V} {t : T} (h1 : LA H v t) : ∀ {vs : List V} {ts : List T}, LAs H vs ts → LAs H (vs ++ [v]) (ts ++ [t])
  | _, _, .nil => .cons h1 .nil
  | _, _, .cons a b => .cons a (LAs.snoc h1 b)
theorem LAs.get {H : Hp} : ∀ {vs : List V} {ts : List T} {i : Nat} {v : V}, LAs H vs ts → vs[i]? = some v → ∃ t, ts[i]? = some t ∧ LA H v t
  | _, _, i, v, .nil, h => by simp at h
  | _, _, 0, v, .cons a b, h => ⟨_, rfl, by have e := Option.some.inj h; exact e ▸ a⟩
  | _, _, i + 1, v, .cons a b, h => by
    obtain ⟨t, h1, h2⟩ := LAs.get b (i := i) (v := v) (by simpa using h)
    exact ⟨t, by simpa using h1, h2⟩
/-- what a drawn tree keeps: at most d storeys -/
def TOk (P : Str → Prop) : Nat → T → Prop
  | _, .num n => 0 ≤ n ∧ n ≤ 30
  | _, .name s => P s
  | 0, .gate _ _ _ => False
  | 0, .join _ _ => False
  | d + 1, .gate s b t => P s ∧ 1 ≤ b ∧ b ≤ 30 ∧ TOk P d t
  | d + 1, .join _ ts => 2 ≤ ts.length ∧ ts.length ≤ 3 ∧ ∀ t ∈ ts, TOk P d t
theorem TOk.num {P : Str → Prop} {d : Nat} {n : Int} (h : TOk P d (.num n)) : 0 ≤ n ∧ n ≤ 30 := by cases d <;> exact h
theorem TOk.name {P : Str → Prop} {d : Nat} {s : Str} (h : TOk P d (.name s)) : P s := by cases d <;> exact h
theorem TOk.mkNum {P : Str → Prop} {d : Nat} {n : Int} (h : 0 ≤ n ∧ n ≤ 30) : TOk P d (.num n) := by cases d <;> exact h
theorem TOk.mkName {P : Str → Prop} {d : Nat} {s : Str} (h : P s) : TOk P d (.name s) := by cases d <;> exact h
theorem TOk.imp {P P' : Str → Prop} (hp : ∀ s, P s → P' s) : ∀ (d : Nat) {t : T}, TOk P d t → TOk P' d t
  | 0, .num _, h => h
  | 0, .name _, h => hp _ h
  | 0, .gate _ _ _, h => h
  | 0, .join _ _, h => h
  | d + 1, .num _, h => h
  | d + 1, .name _, h => hp _ h
  | d + 1, .gate _ _ _, h => ⟨hp _ h.1, h.2.1, h.2.2.1, TOk.imp hp d h.2.2.2⟩
  | d + 1, .join _ _, h => ⟨h.1, h.2.1, fun t ht => TOk.imp hp d (h.2.2 t ht)⟩
def NameOk (s : Str) : Prop := nameM s = true
def DiceAt (H : Hp) (d : Addr) : Prop := ∃ x y : Int, H d = some (.lst [.int x, .int y]) ∧ 0 ≤ x ∧ x < 2147483647 ∧ 0 ≤ y
theorem DiceAt.mono {H H' : Hp} {d : Addr} (h : DiceAt H d) (s : Same H H') : DiceAt H' d := by
  obtain ⟨x, y, e, q⟩ := h
  exact ⟨x, y, s _ _ e, q⟩
theorem DiceAt.keep {H H' : Hp} {d : Addr} (h : DiceAt H d) (b : But d H H') : Keep H H' := by
  obtain ⟨x, y, e, q⟩ := h
  exact .of_but b ⟨x, _, e⟩
/-- what is new in H' -/
def fresh (H H' : Hp) : Hp := fun b => match H b with
  | none => H' b
  | some _ => none
def hide (D : Addr) (G : Hp) : Hp := fun b => if b = D then none else G b
theorem fresh_at {H H' : Hp} {p : Addr} {o : HO} (h : H p = none) (e : H' p = some o) : fresh H H' p = some o := by
  unfold fresh
  rw [h]
  exact e
theorem fresh_inv {H H' : Hp} {p : Addr} {o : HO} (h : fresh H H' p = some o) : H p = none ∧ H' p = some o := by
  unfold fresh at h
  cases e : H p with
  | none => rw [e] at h; exact ⟨rfl, h⟩
  | some u => rw [e] at h; cases h
theorem fresh_sub {H H' : Hp} : Same (fresh H H') H' := fun b o h => (fresh_inv h).2
theorem free_of {H H' : Hp} {dd p : Addr} (D : DiceAt H' dd) (b : But dd H H') (h : H' p = none) : H p = none := by
  cases e : H p with
  | none => rfl
  | some o =>
    by_cases c : p = dd
    · subst c
      obtain ⟨x, y, e2, _⟩ := D
      rw [h] at e2
      cases e2
    · have := b p o e c
      rw [h] at this
      cases this
/-- what a callee made new is new for the caller too -/
theorem fresh_step {H H1 H2 H3 : Hp} {dd : Addr} (D : DiceAt H1 dd) (b : But dd H H1) (s : Same H2 H3) : Same (fresh H1 H2) (fresh H H3) := fun p o h => by
  obtain ⟨h1, h2⟩ := fresh_inv h
  exact fresh_at (free_of D b h1) (s p o h2)
/-! ### how a tree is written -/
def Kd.rank : Kd → Int
  | .most => 1
  | .least => 2
  | .sum => 3
def sp1 : Str := " "
def Kd.sep (k : Kd) : Str := sp1 ++ k.sg ++ sp1
mutual
def wr (firm : Int) : T → Str
  | .num n => tx n
  | .name s => s
  | .gate s b t => "[" ++ s ++ " " ++ tx b ++ "] " ++ wr 4 t
  | .join k ts => if k.rank < firm then "(" ++ wrs k.sep (k.rank + 1) ts ++ ")" else wrs k.sep (k.rank + 1) ts
def wrs (sep : Str) (firm : Int) : List T → Str
  | [] => Str.empty
  | [t] => wr firm t
  | t :: r => wr firm t ++ sep ++ wrs sep firm r
end
theorem app_assoc (a b c : Str) : a ++ b ++ c = a ++ (b ++ c) := by
  show (⟨(a.cps ++ b.cps) ++ c.cps⟩ : Str) = ⟨a.cps ++ (b.cps ++ c.cps)⟩
  rw [Array.append_assoc]
theorem len_app' (a b : Str) : (a ++ b).length = a.length + b.length := by
  show (a.cps ++ b.cps).size = _
  rw [Array.size_append] <;> rfl
theorem wrs_one (sep : Str) (f : Int) (t : T) : wrs sep f [t] = wr f t := by unfold wrs; rfl
theorem wrs_two (sep : Str) (f : Int) (t u : T) (r : List T) : wrs sep f (t :: u :: r) = wr f t ++ sep ++ wrs sep f (u :: r) := by conv => lhs; unfold wrs
theorem wrs_snoc (sep : Str) (f : Int) (t : T) : ∀ {ts : List T}, ts ≠ [] → wrs sep f (ts ++ [t]) = wrs sep f ts ++ sep ++ wr f t
  | [], h => absurd rfl h
  | [u], _ => by
    show wrs sep f [u, t] = _
    rw [wrs_two, wrs_one, wrs_one]
  | u :: v :: r, _ => by
    show wrs sep f (u :: v :: (r ++ [t])) = _
    rw [wrs_two, wrs_two]
    have ih := wrs_snoc sep f t (ts := v :: r) (by intro z; cases z)
    rw [show v :: (r ++ [t]) = (v :: r) ++ [t] from rfl, ih, app_assoc, app_assoc, app_assoc, app_assoc, app_assoc]
theorem tx_len {n : Int} (h : 0 ≤ n ∧ n ≤ 30) : (tx n).length ≤ 2 := by
  have q : ∀ k : Nat, k < 31 → (tx (k : Int)).length ≤ 2 := by decide +kernel
  have e := q n.toNat (by omega)
  rwa [show ((n.toNat : Nat) : Int) = n by omega] at e
def LB : Nat → Nat
  | 0 => 6
  | d + 1 => 3 * LB d + 20
theorem LB_six : ∀ d, 6 ≤ LB d
  | 0 => Nat.le_refl 6
  | d + 1 => by have := LB_six d; show 6 ≤ 3 * LB d + 20; omega
theorem sep_len (k : Kd) : k.sep.length = 3 := by cases k <;> decide +kernel
theorem wrs_len {sep : Str} {f : Int} {B : Nat} (hs : sep.length = 3) : ∀ {ts : List T}, ts ≠ [] → (∀ t ∈ ts, (wr f t).length ≤ B) → (wrs sep f ts).length + 3 ≤ ts.length * (B + 3)
  | [], h, _ => absurd rfl h
  | [u], _, h => by
    rw [wrs_one]
    have := h u (List.mem_singleton.mpr rfl)
    show _ ≤ 1 * (B + 3)
    omega
  | u :: v :: r, _, h => by
    rw [wrs_two, len_app', len_app', hs]
    have ih := wrs_len hs (ts := v :: r) (f := f) (by intro z; cases z) fun t ht => h t (List.mem_cons_of_mem _ ht)
    have h1 := h u List.mem_cons_self
    have e : (u :: v :: r).length * (B + 3) = (v :: r).length * (B + 3) + (B + 3) := by
      rw [List.length_cons (a := u), Nat.add_mul, Nat.one_mul]
    omega
theorem wr_len {P : Str → Prop} (hP : ∀ s, P s → s.length ≤ 6) : ∀ (d : Nat) {t : T} (f : Int), TOk P d t → (wr f t).length ≤ LB d
  | d, .num n, f, h => by
    have := tx_len h.num
    have := LB_six d
    unfold wr
    omega
  | d, .name s, f, h => by
    have := hP _ h.name
    have := LB_six d
    unfold wr
    omega
  | 0, .gate _ _ _, _, h => h.elim
  | 0, .join _ _, _, h => h.elim
  | d + 1, .gate s b t, f, h => by
    obtain ⟨h1, h2, h3, h4⟩ := h
    have e1 := hP _ h1
    have e2 := tx_len (n := b) ⟨by omega, h3⟩
    have e3 := wr_len hP d 4 h4
    unfold wr
    rw [len_app', len_app', len_app', len_app', len_app']
    have c1 : ("[" : Str).length = 1 := by decide +kernel
    have c2 : (" " : Str).length = 1 := by decide +kernel
    have c3 : ("] " : Str).length = 2 := by decide +kernel
    show _ ≤ 3 * LB d + 20
    omega
  | d + 1, .join k ts, f, h => by
    obtain ⟨h1, h2, h3⟩ := h
    have hne : ts ≠ [] := by intro z; subst z; simp at h1
    have e := wrs_len (f := k.rank + 1) (B := LB d) (sep_len k) hne fun t ht => wr_len hP d _ (h3 t ht)
    have e2 : ts.length * (LB d + 3) ≤ 3 * (LB d + 3) := Nat.mul_le_mul_right _ h2
    have c1 : ("(" : Str).length = 1 := by decide +kernel
    have c2 : (")" : Str).length = 1 := by decide +kernel
    unfold wr
    show _ ≤ 3 * LB d + 20
    split
    · rw [len_app', len_app']; omega
    · omega
end Aw

namespace Aw
open PySem L2
/-! ### the words of a written tree -/
def Kd.rk : Kd → Nat
  | .most => 1
  | .least => 2
  | .sum => 3
theorem Kd.rk_rank (k : Kd) : k.rank = (k.rk : Int) := by cases k <;> rfl
mutual
def ww (f : Nat) : T → List Str
  | .num n => [tx n]
  | .name s => [s]
  | .gate s b t => "[" :: s :: tx b :: "]" :: ww 4 t
  | .join k ts => if k.rk < f then "(" :: (wws (k.rk + 1) k.sg ts ++ ([(")" : Str)] : List Str)) else wws (k.rk + 1) k.sg ts
def wws (f : Nat) (sg : Str) : List T → List Str
  | [] => []
  | t :: r => ww f t ++ wwr f sg r
def wwr (f : Nat) (sg : Str) : List T → List Str
  | [] => []
  | t :: r => sg :: (ww f t ++ wwr f sg r)
end
/-! ### the lexer over a written tree -/
theorem str_eta (z : Str) : (⟨z.cps.toList.toArray⟩ : Str) = z := by cases z; rfl
theorem lex_other {c : Nat} (h : kindM c = some .other) (r : List Nat) (ws : List Str) (b : Kn) : lexGo (c :: r) ws b = lexGo r (ws ++ [sg1 c]) .other := by
  conv => lhs; unfold lexGo
  rw [h]
  show lexGo r (lexStep (ws, b) c .other) .other = _
  unfold lexStep
  rw [if_neg (by rintro ⟨_, h | h⟩ <;> cases h), if_pos (by intro z; cases z)]
theorem lex_blank {c : Nat} (h : kindM c = some .blank) (r : List Nat) (ws : List Str) (b : Kn) : lexGo (c :: r) ws b = lexGo r ws .blank := by
  conv => lhs; unfold lexGo
  rw [h]
  show lexGo r (lexStep (ws, b) c .blank) .blank = _
  unfold lexStep
  rw [if_neg (by rintro ⟨_, h | h⟩ <;> cases h), if_neg (by intro z; exact z rfl)]
def Sep (b : Kn) : Prop := b = .other ∨ b = .blank
/-- the signs of one kind in a row -/
theorem lex_more {k : Kn} (hk : k = .letter ∨ k = .figure) (rest : List Nat) (ws : List Str) : ∀ (cs : List Nat) (z : Str), (∀ c ∈ cs, kindM c = some k) → lexGo (cs ++ rest) (ws ++ [z]) k = lexGo rest (ws ++ [z ++ ⟨cs.toArray⟩]) k
  | [], z, _ => by
    have e : z ++ (⟨([] : List Nat).toArray⟩ : Str) = z := by
      show (⟨z.cps ++ #[]⟩ : Str) = z
      rw [Array.append_empty]
    rw [e]
    rfl
  | c :: r, z, h => by
    rw [List.cons_append]
    conv => lhs; unfold lexGo
    rw [h c List.mem_cons_self]
    show lexGo (r ++ rest) (lexStep (ws ++ [z], k) c k) k = _
    have e : lexStep (ws ++ [z], k) c k = ws ++ [z ++ sg1 c] := by
      unfold lexStep
      rw [if_pos ⟨rfl, hk⟩]
      unfold addLast
      dsimp only
      have hl : (ws ++ [z]).length - 1 = ws.length := by rw [List.length_append, List.length_singleton]; omega
      have hw : wd (ws ++ [z]) ws.length = z := by
        unfold wd
        rw [List.getD_eq_getElem?_getD, List.getElem?_append_right (Nat.le_refl _), Nat.sub_self]
        rfl
      rw [hl, hw, List.set_append_right _ _ (Nat.le_refl _), Nat.sub_self]
      rfl
    rw [e, lex_more hk rest ws r (z ++ sg1 c) fun x hx => h x (List.mem_cons_of_mem _ hx)]
    congr 3
    show (⟨(z.cps ++ #[c]) ++ r.toArray⟩ : Str) = ⟨z.cps ++ (c :: r).toArray⟩
    congr 1
    rw [Array.append_assoc]
    congr 1
    simp
theorem lex_word {k : Kn} (hk : k = .letter ∨ k = .figure) {z : Str} (hz : 1 ≤ z.length) (h : ∀ c ∈ z.cps.toList, kindM c = some k) (rest : List Nat) (ws : List Str) {b : Kn} (hb : Sep b) : lexGo (z.cps.toList ++ rest) ws b = lexGo rest (ws ++ [z]) k := by
  cases e : z.cps.toList with
  | nil =>
    have : z.length = z.cps.toList.length := (Array.length_toList).symm
    rw [e] at this
    rw [this] at hz
    exact absurd hz (by decide)
  | cons c r =>
    rw [e] at h
    rw [List.cons_append]
    conv => lhs; unfold lexGo
    rw [h c List.mem_cons_self]
    show lexGo (r ++ rest) (lexStep (ws, b) c k) k = _
    have e1 : lexStep (ws, b) c k = ws ++ [sg1 c] := by
      unfold lexStep
      rw [if_neg (by rintro ⟨q, _⟩; dsimp only at q; subst q; rcases hb with q | q <;> rcases hk with p | p <;> (rw [p] at q; cases q)), if_pos (by intro q; subst q; rcases hk with p | p <;> cases p)]
    rw [e1, lex_more hk rest ws r (sg1 c) fun x hx => h x (List.mem_cons_of_mem _ hx)]
    congr 3
    show (⟨#[c] ++ r.toArray⟩ : Str) = z
    rw [← str_eta z, e]
    congr 1
    simp
theorem kind_let {c : Nat} (h : c ∈ LET) : kindM c = some .letter := by unfold kindM; rw [if_pos h]
theorem kind_fig {c : Nat} (h : c ∈ FIG) : kindM c = some .figure := by
  have q : ∀ c ∈ FIG, kindM c = some .figure := by decide +kernel
  exact q c h
theorem name_facts {s : Str} (h : NameOk s) : 1 ≤ s.length ∧ s.length ≤ 6 ∧ ∀ c ∈ s.cps.toList, c ∈ LET := by
  unfold NameOk nameM at h
  have q := Bool.and_eq_true_iff.mp h
  have q1 := of_decide_eq_true q.1
  exact ⟨q1.1, q1.2, fun c hc => of_decide_eq_true (List.all_eq_true.mp q.2 c hc)⟩
theorem lex_name {s : Str} (h : NameOk s) (rest : List Nat) (ws : List Str) {b : Kn} (hb : Sep b) : lexGo (s.cps.toList ++ rest) ws b = lexGo rest (ws ++ [s]) .letter := by
  obtain ⟨h1, _, h3⟩ := name_facts h
  exact lex_word (.inl rfl) h1 (fun c hc => kind_let (h3 c hc)) rest ws hb
theorem num_facts {n : Int} (h : 0 ≤ n ∧ n ≤ 30) : 1 ≤ (tx n).length ∧ (∀ c ∈ (tx n).cps.toList, c ∈ FIG) ∧ numM 0 (tx n) = some n ∧ nameM (tx n) = false ∧ ¬ tx n = "(" ∧ ¬ tx n = "[" := by
  have q : ∀ k : Nat, k < 31 → 1 ≤ (tx (k : Int)).length ∧ (∀ c ∈ (tx (k : Int)).cps.toList, c ∈ FIG) ∧ numM 0 (tx (k : Int)) = some (k : Int) ∧ nameM (tx (k : Int)) = false ∧ ¬ tx (k : Int) = "(" ∧ ¬ tx (k : Int) = "[" := by decide +kernel
  have e := q n.toNat (by omega)
  rwa [show ((n.toNat : Nat) : Int) = n by omega] at e
theorem bound_facts {n : Int} (h : 1 ≤ n ∧ n ≤ 30) : numM 1 (tx n) = some n := by
  have q : ∀ k : Nat, k < 31 → 1 ≤ k → numM 1 (tx (k : Int)) = some (k : Int) := by decide +kernel
  have e := q n.toNat (by omega) (by omega)
  rwa [show ((n.toNat : Nat) : Int) = n by omega] at e
theorem lex_num {n : Int} (h : 0 ≤ n ∧ n ≤ 30) (rest : List Nat) (ws : List Str) {b : Kn} (hb : Sep b) : lexGo ((tx n).cps.toList ++ rest) ws b = lexGo rest (ws ++ [tx n]) .figure := by
  obtain ⟨h1, h3, _⟩ := num_facts h
  exact lex_word (.inr rfl) h1 (fun c hc => kind_fig (h3 c hc)) rest ws hb
theorem cps_app (a b : Str) : (a ++ b).cps.toList = a.cps.toList ++ b.cps.toList := by
  show (a.cps ++ b.cps).toList = _
  rw [Array.toList_append]
theorem lex_sep (k : Kd) (rest : List Nat) (ws : List Str) (b : Kn) : lexGo (k.sep.cps.toList ++ rest) ws b = lexGo rest (ws ++ [k.sg]) .blank := by
  have e : k.sep.cps.toList = [32] ++ k.sg.cps.toList ++ [32] := by cases k <;> decide +kernel
  obtain ⟨c, h1, h2, h3⟩ : ∃ c, k.sg.cps.toList = [c] ∧ kindM c = some .other ∧ sg1 c = k.sg := by
    cases k
    · exact ⟨43, by decide +kernel⟩
    · exact ⟨38, by decide +kernel⟩
    · exact ⟨124, by decide +kernel⟩
  rw [e, h1]
  show lexGo (32 :: c :: 32 :: rest) ws b = _
  rw [lex_blank (by decide +kernel), lex_other h2, lex_blank (by decide +kernel), h3]
theorem lex_open (rest : List Nat) (ws : List Str) (b : Kn) : lexGo (("(" : Str).cps.toList ++ rest) ws b = lexGo rest (ws ++ ([("(" : Str)] : List Str)) .other := by
  rw [show ("(" : Str).cps.toList = [40] by decide +kernel]
  show lexGo (40 :: rest) ws b = _
  rw [lex_other (by decide +kernel), show sg1 40 = "(" by decide +kernel]
theorem lex_close (rest : List Nat) (ws : List Str) (b : Kn) : lexGo ((")" : Str).cps.toList ++ rest) ws b = lexGo rest (ws ++ ([(")" : Str)] : List Str)) .other := by
  rw [show (")" : Str).cps.toList = [41] by decide +kernel]
  show lexGo (41 :: rest) ws b = _
  rw [lex_other (by decide +kernel), show sg1 41 = ")" by decide +kernel]
theorem lex_gopen (rest : List Nat) (ws : List Str) (b : Kn) : lexGo (("[" : Str).cps.toList ++ rest) ws b = lexGo rest (ws ++ ([("[" : Str)] : List Str)) .other := by
  rw [show ("[" : Str).cps.toList = [91] by decide +kernel]
  show lexGo (91 :: rest) ws b = _
  rw [lex_other (by decide +kernel), show sg1 91 = "[" by decide +kernel]
theorem lex_gclose (rest : List Nat) (ws : List Str) (b : Kn) : lexGo (("] " : Str).cps.toList ++ rest) ws b = lexGo rest (ws ++ ([("]" : Str)] : List Str)) .blank := by
  rw [show ("] " : Str).cps.toList = [93, 32] by decide +kernel]
  show lexGo (93 :: 32 :: rest) ws b = _
  rw [lex_other (by decide +kernel), lex_blank (by decide +kernel), show sg1 93 = "]" by decide +kernel]
theorem lex_sp (rest : List Nat) (ws : List Str) (b : Kn) : lexGo ((" " : Str).cps.toList ++ rest) ws b = lexGo rest ws .blank := by
  rw [show (" " : Str).cps.toList = [32] by decide +kernel]
  show lexGo (32 :: rest) ws b = _
  rw [lex_blank (by decide +kernel)]
/-- the text z, from a place between words on, is the words W -/
def Lx (z : Str) (W : List Str) : Prop := ∀ (rest : List Nat) (ws : List Str) (b : Kn), Sep b → ∃ b', lexGo (z.cps.toList ++ rest) ws b = lexGo rest (ws ++ W) b'
theorem lx_wrs {k : Kd} {f : Nat} : ∀ {ts : List T}, ts ≠ [] → (∀ t ∈ ts, Lx (wr (f : Int) t) (ww f t)) → Lx (wrs k.sep (f : Int) ts) (wws f k.sg ts)
  | [], h, _ => absurd rfl h
  | [t], _, h => by
    rw [wrs_one]
    show Lx _ (ww f t ++ [])
    rw [List.append_nil]
    exact h t (List.mem_singleton.mpr rfl)
  | t :: u :: r, _, h => by
    rw [wrs_two]
    intro rest ws b hb
    obtain ⟨b1, e1⟩ := h t List.mem_cons_self (k.sep.cps.toList ++ ((wrs k.sep (f : Int) (u :: r)).cps.toList ++ rest)) ws b hb
    obtain ⟨b2, e2⟩ := lx_wrs (ts := u :: r) (k := k) (f := f) (by intro z; cases z) (fun t ht => h t (List.mem_cons_of_mem _ ht)) rest (ws ++ ww f t ++ [k.sg]) .blank (.inr rfl)
    refine ⟨b2, ?_⟩
    rw [cps_app, cps_app, List.append_assoc, List.append_assoc, e1, lex_sep, e2]
    congr 1
    show _ = ws ++ (ww f t ++ (k.sg :: (ww f u ++ wwr f k.sg r)))
    simp [wws]
theorem lx_wr : ∀ (d : Nat) {t : T} (f : Nat), TOk NameOk d t → Lx (wr (f : Int) t) (ww f t)
  | d, .num n, f, h => fun rest ws b hb => ⟨.figure, by
      unfold wr ww
      exact lex_num h.num rest ws hb⟩
  | d, .name s, f, h => fun rest ws b hb => ⟨.letter, by
      unfold wr ww
      exact lex_name h.name rest ws hb⟩
  | 0, .gate _ _ _, _, h => h.elim
  | 0, .join _ _, _, h => h.elim
  | d + 1, .gate s n t, f, h => fun rest ws b hb => by
    obtain ⟨h1, h2, h3, h4⟩ := h
    obtain ⟨b', e⟩ := lx_wr d 4 h4 rest (ws ++ ([("[" : Str)] : List Str) ++ [s] ++ [tx n] ++ ([("]" : Str)] : List Str)) .blank (.inr rfl)
    refine ⟨b', ?_⟩
    unfold wr ww
    rw [cps_app, cps_app, cps_app, cps_app, cps_app]
    simp only [List.append_assoc]
    rw [lex_gopen, lex_name h1 _ _ (.inl rfl), lex_sp, lex_num ⟨by omega, h3⟩ _ _ (.inr rfl), lex_gclose]
    rw [show ((4 : Nat) : Int) = 4 from rfl] at e
    rw [e]
    congr 1
    simp
  | d + 1, .join k ts, f, h => fun rest ws b hb => by
    obtain ⟨h1, h2, h3⟩ := h
    have hne : ts ≠ [] := by intro z; subst z; simp at h1
    have L : Lx (wrs k.sep (k.rank + 1) ts) (wws (k.rk + 1) k.sg ts) := by
      have q := lx_wrs (k := k) (f := k.rk + 1) hne fun t ht => lx_wr d (k.rk + 1) (h3 t ht)
      rw [show (((k.rk + 1 : Nat)) : Int) = k.rank + 1 by rw [Kd.rk_rank]; omega] at q
      exact q
    unfold wr ww
    by_cases c : k.rk < f
    · rw [if_pos c, if_pos (by rw [Kd.rk_rank]; omega)]
      obtain ⟨b', e⟩ := L ((")" : Str).cps.toList ++ rest) (ws ++ ([("(" : Str)] : List Str)) .other (.inl rfl)
      refine ⟨.other, ?_⟩
      rw [cps_app, cps_app]
      simp only [List.append_assoc]
      rw [lex_open, e, lex_close]
      congr 1
      simp
    · rw [if_neg c, if_neg (by rw [Kd.rk_rank]; omega)]
      exact L rest ws b hb
theorem lexM_wr {d : Nat} {t : T} (h : TOk NameOk d t) : lexM (wr 0 t) = some (ww 0 t) := by
  obtain ⟨b, e⟩ := lx_wr d 0 h [] [] .blank (.inr rfl)
  unfold lexM
  rw [List.append_nil] at e
  rw [show ((0 : Nat) : Int) = 0 from rfl] at e
  rw [e, List.nil_append]
  unfold lexGo
  rfl
end Aw

namespace Aw
open PySem L2
/-! ### the parser over the words of a written tree -/
def At (ws : List Str) : Nat → List Str → Prop
  | _, [] => True
  | i, a :: r => wd ws i = a ∧ At ws (i + 1) r
theorem At.left {ws : List Str} : ∀ {A B : List Str} {i : Nat}, At ws i (A ++ B) → At ws i A
  | [], _, _, _ => True.intro
  | _ :: A, B, _, h => ⟨h.1, At.left (A := A) (B := B) h.2⟩
theorem At.right {ws : List Str} : ∀ {A B : List Str} {i : Nat}, At ws i (A ++ B) → At ws (i + A.length) B
  | [], _, _, h => h
  | a :: A, B, i, h => by
    have q := At.right (A := A) (B := B) h.2
    rwa [show i + 1 + A.length = i + (a :: A).length by rw [List.length_cons]; omega] at q
theorem At.self (pre : List Str) : ∀ (W : List Str), At (pre ++ W) pre.length W
  | [] => True.intro
  | a :: r => by
    refine ⟨?_, ?_⟩
    · unfold wd
      rw [List.getD_eq_getElem?_getD, List.getElem?_append_right (Nat.le_refl _), Nat.sub_self]
      rfl
    · have q := At.self (pre ++ [a]) r
      rw [List.append_assoc, List.length_append, List.length_singleton] at q
      exact q
def ks : Nat → List Kd
  | 0 => kinds
  | 1 => kinds
  | 2 => [.least, .sum]
  | 3 => [.sum]
  | _ => []
theorem ks_split {f : Nat} {k : Kd} (h : f ≤ k.rk) : ∃ pre, ks f = pre ++ k :: ks (k.rk + 1) ∧ ∀ k' ∈ pre, f ≤ k'.rk := by
  match f, k, h with
  | 0, .most, _ => exact ⟨[], rfl, fun _ h => by cases h⟩
  | 0, .least, _ => exact ⟨[.most], rfl, fun _ h => Nat.zero_le _⟩
  | 0, .sum, _ => exact ⟨[.most, .least], rfl, fun _ h => Nat.zero_le _⟩
  | 1, .most, _ => exact ⟨[], rfl, fun _ h => by cases h⟩
  | 1, .least, _ => exact ⟨[.most], rfl, fun k _ => by cases k <;> decide⟩
  | 1, .sum, _ => exact ⟨[.most, .least], rfl, fun k _ => by cases k <;> decide⟩
  | 2, .most, h => exact absurd h (by decide)
  | 2, .least, _ => exact ⟨[], rfl, fun _ h => by cases h⟩
  | 2, .sum, _ => exact ⟨[.least], rfl, fun k h => by rw [List.mem_singleton.mp h]; decide⟩
  | 3, .most, h => exact absurd h (by decide)
  | 3, .least, h => exact absurd h (by decide)
  | 3, .sum, _ => exact ⟨[], rfl, fun _ h => by cases h⟩
  | n + 4, k, h => cases k <;> exact absurd h (by simp [Kd.rk])
theorem ks_ge {f : Nat} : ∀ {k : Kd}, k ∈ ks f → f ≤ k.rk := by
  intro k h
  match f, h with
  | 0, _ => exact Nat.zero_le _
  | 1, _ => cases k <;> decide
  | 2, h => revert h; cases k <;> decide
  | 3, h => revert h; cases k <;> decide
  | n + 4, h => exact absurd h (by simp [ks])
theorem sg_inj {a b : Kd} (h : a.sg = b.sg) : a = b := by
  revert h
  cases a <;> cases b <;> decide +kernel
theorem chain_stop {ws : List Str} {F : Nat → Option (T × Nat)} {sg : Str} {n : Nat} {ts : List T} {j : Nat} (h : ¬ wd ws j = sg) : chainM ws F sg (n + 1) ts j = some (ts, j) := by
  unfold chainM
  rw [if_neg h]
theorem lift_pre {ws : List Str} {P : Nat → Option (T × Nat)} {ks' : List Kd} {i j : Nat} {t : T} (h : levelM ws P ks' i = some (t, j)) : ∀ {pre : List Kd}, (∀ k ∈ pre, ¬ wd ws j = k.sg) → levelM ws P (pre ++ ks') i = some (t, j)
  | [], _ => h
  | k :: r, hp => by
    have ih := lift_pre h (pre := r) fun k hk => hp k (List.mem_cons_of_mem _ hk)
    rw [List.cons_append]
    unfold levelM
    rw [ih]
    dsimp only
    rw [chain_stop (hp k List.mem_cons_self)]
    rfl
/-- a piece that is no sum, least or most, or stands in brackets -/
theorem lift_piece {ws : List Str} {P : Nat → Option (T × Nat)} {f i j : Nat} {t : T} (h : P i = some (t, j)) (hn : ∀ k : Kd, f ≤ k.rk → ¬ wd ws j = k.sg) : levelM ws P (ks f) i = some (t, j) := by
  have q : levelM ws P [] i = some (t, j) := by unfold levelM; exact h
  have r := lift_pre q (pre := ks f) fun k hk => hn k (ks_ge hk)
  rwa [List.append_nil] at r
/-- the rest of a chain -/
theorem chain_all {ws : List Str} {F : Nat → Option (T × Nat)} {k : Kd} {f : Nat} : ∀ (r : List T) (acc : List T) (j n : Nat), r.length < n → At ws j (wwr f k.sg r) → ¬ wd ws (j + (wwr f k.sg r).length) = k.sg →
    (∀ t ∈ r, ∀ i, At ws i (ww f t) → (wd ws (i + (ww f t).length) = k.sg ∨ i + (ww f t).length = j + (wwr f k.sg r).length) → F i = some (t, i + (ww f t).length)) →
    chainM ws F k.sg n acc j = some (acc ++ r, j + (wwr f k.sg r).length)
  | [], acc, j, n, hn, _, he, _ => by
    cases n with
    | zero => exact absurd hn (Nat.lt_irrefl 0)
    | succ n =>
      rw [List.append_nil]
      exact chain_stop he
  | t :: r, acc, j, n, hn, ha, he, hF => by
    cases n with
    | zero => exact absurd hn (Nat.not_lt_zero _)
    | succ n =>
      have ha' : wd ws j = k.sg ∧ At ws (j + 1) (ww f t ++ wwr f k.sg r) := by unfold wwr at ha; exact ha
      have el : (wwr f k.sg (t :: r)).length = 1 + (ww f t).length + (wwr f k.sg r).length := by
        conv => lhs; unfold wwr
        rw [List.length_cons, List.length_append]; omega
      rw [el] at he hF ⊢
      have e1 : F (j + 1) = some (t, j + 1 + (ww f t).length) := by
        refine hF t List.mem_cons_self (j + 1) ha'.2.left ?_
        cases r with
        | nil => right; show _ = j + (1 + (ww f t).length + 0); omega
        | cons u r =>
          left
          have q := ha'.2.right
          unfold wwr at q
          exact q.1
      unfold chainM
      rw [if_pos ha'.1, e1]
      dsimp only
      have ih := chain_all r (acc ++ [t]) (j + 1 + (ww f t).length) n (by rw [List.length_cons] at hn; omega) ha'.2.right (by
        rwa [show j + 1 + (ww f t).length + (wwr f k.sg r).length = j + (1 + (ww f t).length + (wwr f k.sg r).length) by omega]) (fun u hu i h1 h2 => hF u (List.mem_cons_of_mem _ hu) i h1 (by
        rwa [show j + 1 + (ww f t).length + (wwr f k.sg r).length = j + (1 + (ww f t).length + (wwr f k.sg r).length) by omega] at h2))
      rw [ih, List.append_assoc]
      congr 2
      omega
theorem name_not {s : Str} (h : NameOk s) : ¬ s = "(" ∧ ¬ s = "[" := by
  constructor
  · intro e
    subst e
    exact absurd h (by unfold NameOk; decide +kernel)
  · intro e
    subst e
    exact absurd h (by unfold NameOk; decide +kernel)
/-- a join whose pieces are read, read at its own level -/
theorem join_level {ws : List Str} {P : Nat → Option (T × Nat)} {k : Kd} {ts : List T} {i : Nat} (h2 : 2 ≤ ts.length) (h8 : ts.length ≤ 8) (hl : ts.length ≤ ws.length) (ha : At ws i (wws (k.rk + 1) k.sg ts))
    (hn : ∀ k' : Kd, k.rk ≤ k'.rk → ¬ wd ws (i + (wws (k.rk + 1) k.sg ts).length) = k'.sg)
    (hF : ∀ t ∈ ts, ∀ i, At ws i (ww (k.rk + 1) t) → (∀ k' : Kd, k.rk + 1 ≤ k'.rk → ¬ wd ws (i + (ww (k.rk + 1) t).length) = k'.sg) → levelM ws P (ks (k.rk + 1)) i = some (t, i + (ww (k.rk + 1) t).length)) :
    levelM ws P (k :: ks (k.rk + 1)) i = some (.join k ts, i + (wws (k.rk + 1) k.sg ts).length) := by
  cases ts with
  | nil => exact absurd h2 (by simp)
  | cons t r =>
    have el : (wws (k.rk + 1) k.sg (t :: r)).length = (ww (k.rk + 1) t).length + (wwr (k.rk + 1) k.sg r).length := by
      conv => lhs; unfold wws
      rw [List.length_append]
    have ha' : At ws i (ww (k.rk + 1) t ++ wwr (k.rk + 1) k.sg r) := by unfold wws at ha; exact ha
    rw [el] at hn ⊢
    have other : ∀ {j : Nat}, wd ws j = k.sg → ∀ k' : Kd, k.rk + 1 ≤ k'.rk → ¬ wd ws j = k'.sg := fun e k' hk q => by
      have z := sg_inj (e.symm.trans q)
      subst z
      omega
    have e1 : levelM ws P (ks (k.rk + 1)) i = some (t, i + (ww (k.rk + 1) t).length) := by
      refine hF t List.mem_cons_self i ha'.left ?_
      cases r with
      | nil => exact absurd h2 (by simp)
      | cons u r =>
        have q := ha'.right
        unfold wwr at q
        exact other q.1
    unfold levelM
    rw [e1]
    dsimp only
    have c := chain_all (F := levelM ws P (ks (k.rk + 1))) (k := k) (f := k.rk + 1) r [t] (i + (ww (k.rk + 1) t).length) (ws.length + 1) (by rw [List.length_cons] at hl; omega) ha'.right (by
      rw [Nat.add_assoc]; exact hn k (Nat.le_refl _)) (fun u hu i' h1 h2' => hF u (List.mem_cons_of_mem _ hu) i' h1 (by
        rcases h2' with e | e
        · exact other e
        · rw [e, Nat.add_assoc]
          exact fun k' hk => hn k' (by omega)))
    rw [c]
    dsimp only
    have ej : joinM k ([t] ++ r) = some (.join k (t :: r)) := by
      unfold joinM
      rw [if_neg (by show ¬ 8 < (t :: r).length; omega)]
      cases r with
      | nil => exact absurd h2 (by simp)
      | cons u r => rfl
    rw [ej, Nat.add_assoc]
    rfl
theorem parse_wr {ws : List Str} : ∀ (d D : Nat) {t : T} (f i : Nat), d < D → TOk NameOk d t → ws.length ≥ 3 ∨ d = 0 → At ws i (ww f t) → (∀ k : Kd, f ≤ k.rk → ¬ wd ws (i + (ww f t).length) = k.sg) → levelM ws (pieceM ws D) (ks f) i = some (t, i + (ww f t).length)
  | d, 0, _, _, _, h, _, _, _, _ => absurd h (Nat.not_lt_zero _)
  | d, D + 1, .num n, f, i, hd, h, hw, ha, hn => by
    obtain ⟨h1, h2, h3, h4, h5, h6⟩ := num_facts h.num
    unfold ww at ha hn ⊢
    refine lift_piece ?_ hn
    unfold pieceM
    rw [ha.1, if_neg h5, if_neg h6, h4, if_neg Bool.false_ne_true, h3]
    rfl
  | d, D + 1, .name s, f, i, hd, h, hw, ha, hn => by
    have h1 := h.name
    obtain ⟨h5, h6⟩ := name_not h1
    unfold ww at ha hn ⊢
    refine lift_piece ?_ hn
    unfold pieceM
    rw [ha.1, if_neg h5, if_neg h6, if_pos (show nameM s = true from h1)]
    rfl
  | 0, D + 1, .gate _ _ _, _, _, _, h, _, _, _ => h.elim
  | 0, D + 1, .join _ _, _, _, _, h, _, _, _ => h.elim
  | d + 1, D + 1, .gate s n t, f, i, hd, h, hw, ha, hn => by
    obtain ⟨h1, h2, h3, h4⟩ := h
    unfold ww at ha hn ⊢
    obtain ⟨a1, a2, a3, a4, a5⟩ := ha
    have ih := parse_wr d D (t := t) 4 (i + 1 + 1 + 1 + 1) (by omega) h4 (hw.elim .inl fun z => absurd z (Nat.succ_ne_zero d)) a5 (fun k hk => by cases k <;> exact absurd hk (by decide))
    refine lift_piece ?_ hn
    unfold pieceM
    rw [a1, if_neg (by decide +kernel), if_pos rfl]
    unfold gateM
    rw [a2, if_pos (show nameM s = true from h1), show wd ws (i + 1 + 1) = tx n from a3, bound_facts ⟨h2, h3⟩]
    dsimp only
    rw [if_pos (show wd ws (i + 1 + 2) = "]" from a4)]
    have e : pieceM ws D (i + 1 + 3) = some (t, i + 1 + 1 + 1 + 1 + (ww 4 t).length) := by
      unfold levelM ks at ih
      exact ih
    rw [e]
    refine congrArg (fun j => some (T.gate s n t, j)) ?_
    simp only [List.length_cons]
    omega
  | d + 1, D + 1, .join k ts, f, i, hd, h, hw, ha, hn => by
    obtain ⟨h2, h3, h4⟩ := h
    have hl : ts.length ≤ ws.length := by
      rcases hw with z | z
      · omega
      · cases z
    unfold ww at ha hn ⊢
    by_cases c : k.rk < f
    · rw [if_pos c] at ha hn ⊢
      obtain ⟨a1, a2⟩ := ha
      have aB := a2.left
      have aC := a2.right.1
      refine lift_piece ?_ hn
      unfold pieceM
      rw [a1, if_pos rfl]
      have J := join_level (P := pieceM ws D) (k := k) h2 (by omega) hl aB (fun k' _ e => by
        rw [aC] at e
        cases k' <;> exact absurd e (by decide +kernel)) (fun t ht i' h1 h2' => parse_wr d D (k.rk + 1) i' (by omega) (h4 t ht) (hw.elim .inl fun z => absurd z (Nat.succ_ne_zero d)) h1 h2')
      obtain ⟨pre, ep, hp⟩ := ks_split (f := 0) (k := k) (Nat.zero_le _)
      have Lv := lift_pre J (pre := pre) (fun k' _ e => by
        rw [aC] at e
        cases k' <;> exact absurd e (by decide +kernel))
      rw [← ep] at Lv
      rw [show levelM ws (pieceM ws D) kinds (i + 1) = some (.join k ts, i + 1 + (wws (k.rk + 1) k.sg ts).length) from Lv]
      dsimp only
      rw [if_pos aC]
      congr 2
      rw [List.length_cons, List.length_append, List.length_singleton]
      omega
    · rw [if_neg c] at ha hn ⊢
      have J := join_level (P := pieceM ws (D + 1)) (k := k) h2 (by omega) hl ha (fun k' hk => hn k' (by omega)) (fun t ht i' h1 h2' => parse_wr d (D + 1) (k.rk + 1) i' (by omega) (h4 t ht) (hw.elim .inl fun z => absurd z (Nat.succ_ne_zero d)) h1 h2')
      obtain ⟨pre, ep, hp⟩ := ks_split (f := f) (k := k) (by omega)
      rw [ep]
      exact lift_pre J fun k' hk => hn k' (hp k' hk)
def WB : Nat → Nat
  | 0 => 1
  | d + 1 => 3 * WB d + 4
theorem WB_one : ∀ d, 1 ≤ WB d
  | 0 => Nat.le_refl 1
  | d + 1 => by show 1 ≤ 3 * WB d + 4; omega
theorem wwr_len {f B : Nat} {sg : Str} : ∀ {r : List T}, (∀ t ∈ r, (ww f t).length ≤ B) → (wwr f sg r).length ≤ r.length * (B + 1)
  | [], _ => Nat.zero_le _
  | t :: r, h => by
    unfold wwr
    have ih := wwr_len (sg := sg) (r := r) fun u hu => h u (List.mem_cons_of_mem _ hu)
    have h1 := h t List.mem_cons_self
    rw [List.length_cons, List.length_append, List.length_cons, Nat.add_mul]
    omega
theorem wws_len {f B : Nat} {sg : Str} {t : T} {r : List T} (h : ∀ u ∈ t :: r, (ww f u).length ≤ B) : (wws f sg (t :: r)).length ≤ B + r.length * (B + 1) := by
  unfold wws
  have h1 := h t List.mem_cons_self
  have h2 := wwr_len (sg := sg) (r := r) fun u hu => h u (List.mem_cons_of_mem _ hu)
  rw [List.length_append]
  omega
theorem ww_len : ∀ (d : Nat) {t : T} (f : Nat), TOk NameOk d t → (ww f t).length ≤ WB d
  | d, .num n, f, h => by unfold ww; exact WB_one d
  | d, .name n, f, h => by unfold ww; exact WB_one d
  | 0, .gate _ _ _, _, h => h.elim
  | 0, .join _ _, _, h => h.elim
  | d + 1, .gate s n t, f, h => by
    have e := ww_len d 4 h.2.2.2
    unfold ww
    show _ ≤ 3 * WB d + 4
    simp only [List.length_cons]
    omega
  | d + 1, .join k ts, f, h => by
    obtain ⟨h1, h2, h3⟩ := h
    have e : (wws (k.rk + 1) k.sg ts).length ≤ 3 * WB d + 2 := by
      cases ts with
      | nil => simp at h1
      | cons t r =>
        have q := wws_len (sg := k.sg) (t := t) (r := r) fun u hu => ww_len d (k.rk + 1) (h3 u hu)
        have q2 : r.length * (WB d + 1) ≤ 2 * (WB d + 1) := Nat.mul_le_mul_right _ (by rw [List.length_cons] at h2; omega)
        omega
    unfold ww
    show _ ≤ 3 * WB d + 4
    split
    · rw [List.length_cons, List.length_append, List.length_singleton]; omega
    · omega
theorem ww_pos : ∀ {t : T} (d f : Nat), TOk NameOk d t → 1 ≤ (ww f t).length
  | .num _, d, f, _ => by unfold ww; exact Nat.le_refl 1
  | .name _, d, f, _ => by unfold ww; exact Nat.le_refl 1
  | .gate _ _ _, d, f, _ => by unfold ww; rw [List.length_cons]; omega
  | .join k ts, 0, f, h => h.elim
  | .join k ts, d + 1, f, h => by
    have e : 1 ≤ (wws (k.rk + 1) k.sg ts).length := by
      obtain ⟨h1, h2, h3⟩ := h
      match ts, h1 with
      | t :: u :: r, _ =>
        unfold wws wwr
        rw [List.length_append, List.length_cons]
        omega
    unfold ww
    split
    · rw [List.length_cons]; omega
    · exact e
theorem ww_three {t : T} (d f : Nat) (h : TOk NameOk (d + 1) t) : TOk NameOk 0 t ∨ 3 ≤ (ww f t).length := by
  cases t with
  | num n => exact .inl h
  | name n => exact .inl h
  | gate s n t =>
    right
    unfold ww
    simp only [List.length_cons]
    omega
  | join k ts =>
    right
    obtain ⟨h1, h2, h3⟩ := h
    have e : 3 ≤ (wws (k.rk + 1) k.sg ts).length := by
      match ts, h1, h3 with
      | t :: u :: r, _, h3 =>
        have q1 := ww_pos d (k.rk + 1) (h3 t List.mem_cons_self)
        have q2 := ww_pos d (k.rk + 1) (h3 u (List.mem_cons_of_mem _ List.mem_cons_self))
        unfold wws wwr
        rw [List.length_append, List.length_cons, List.length_append]
        omega
    unfold ww
    split
    · rw [List.length_cons, List.length_append]; omega
    · exact e
theorem sg_ne (k : Kd) : ¬ Str.empty = k.sg := by cases k <;> decide +kernel
theorem read_wr {t : T} (h : TOk NameOk 2 t) : readM (wr 0 t) = some t := by
  have l1 := wr_len (fun s h => (name_facts h).2.1) 2 0 h
  have l2 : (ww 0 t).length ≤ 25 := ww_len 2 0 h
  unfold readM
  rw [if_neg (by have : LB 2 = 134 := rfl; omega), lexM_wr h]
  dsimp only
  rw [if_neg (by omega)]
  have ha : At (ww 0 t) 0 (ww 0 t) := At.self [] (ww 0 t)
  have he : wd (ww 0 t) (0 + (ww 0 t).length) = Str.empty := wd_end (by omega)
  have P : levelM (ww 0 t) (pieceM (ww 0 t) 3) (ks 0) 0 = some (t, 0 + (ww 0 t).length) := by
    rcases ww_three 1 0 h with q | q
    · exact parse_wr 0 3 0 0 (by decide) q (.inr rfl) ha fun k _ e => sg_ne k (he.symm.trans e)
    · exact parse_wr 2 3 0 0 (by decide) h (.inl q) ha fun k _ e => sg_ne k (he.symm.trans e)
  rw [show levelM (ww 0 t) (pieceM (ww 0 t) 3) kinds 0 = _ from P]
  dsimp only
  rw [if_pos he]
end Aw

namespace Aw
open PySem L2
/-! ### any tree that a text is read to: its depth, a bound for its text -/
mutual
def WF : T → Prop
  | .num n => 0 ≤ n ∧ n ≤ 30
  | .name _ => True
  | .gate _ b t => (0 ≤ b ∧ b ≤ 30) ∧ WF t
  | .join _ ts => 0 < ts.length ∧ WFs ts
def WFs : List T → Prop
  | [] => True
  | t :: r => WF t ∧ WFs r
end
mutual
def dep : T → Nat
  | .num _ => 0
  | .name _ => 0
  | .gate _ _ t => dep t + 1
  | .join _ ts => deps ts + 1
def deps : List T → Nat
  | [] => 0
  | t :: r => max (dep t) (deps r)
end
mutual
def Sz : T → Nat
  | .num _ => 2
  | .name s => s.length
  | .gate s _ t => s.length + 8 + Sz t
  | .join _ ts => 2 + Szs ts
def Szs : List T → Nat
  | [] => 0
  | t :: r => Sz t + 3 + Szs r
end
theorem WFs.mem : ∀ {ts : List T} {t : T}, WFs ts → t ∈ ts → WF t
  | _ :: _, _, h, .head _ => h.1
  | _ :: _, _, h, .tail _ m => WFs.mem h.2 m
theorem WFs.of : ∀ {ts : List T}, (∀ t ∈ ts, WF t) → WFs ts
  | [], _ => True.intro
  | t :: r, h => ⟨h t List.mem_cons_self, WFs.of fun u hu => h u (List.mem_cons_of_mem _ hu)⟩
theorem dep_mem : ∀ {ts : List T} {t : T}, t ∈ ts → dep t ≤ deps ts
  | _ :: _, _, .head _ => Nat.le_max_left _ _
  | _ :: _, _, .tail _ m => Nat.le_trans (dep_mem m) (Nat.le_max_right _ _)
theorem deps_le {n : Nat} : ∀ {ts : List T}, (∀ t ∈ ts, dep t ≤ n) → deps ts ≤ n
  | [], _ => Nat.zero_le _
  | t :: r, h => Nat.max_le.mpr ⟨h t List.mem_cons_self, deps_le fun u hu => h u (List.mem_cons_of_mem _ hu)⟩
theorem Sz_mem : ∀ {ts : List T} {t : T}, t ∈ ts → Sz t ≤ Szs ts
  | t :: r, _, .head _ => by show Sz t ≤ Sz t + 3 + Szs r; omega
  | t :: r, u, .tail _ m => by have := Sz_mem m; show Sz u ≤ Sz t + 3 + Szs r; omega
theorem Szs_take : ∀ (ts : List T) (i : Nat), Szs (ts.take i) ≤ Szs ts
  | [], i => by simp
  | t :: r, 0 => Nat.zero_le _
  | t :: r, i + 1 => by have := Szs_take r i; show Sz t + 3 + Szs (r.take i) ≤ Sz t + 3 + Szs r; omega
mutual
theorem wr_Sz : ∀ (t : T) (f : Int), WF t → (wr f t).length ≤ Sz t
  | .num n, f, h => tx_len h
  | .name s, f, h => Nat.le_refl _
  | .gate s b t, f, h => by
    have e := wr_Sz t 4 h.2
    have e2 := tx_len h.1
    unfold wr Sz
    rw [len_app', len_app', len_app', len_app', len_app']
    have c1 : ("[" : Str).length = 1 := by decide +kernel
    have c2 : (" " : Str).length = 1 := by decide +kernel
    have c3 : ("] " : Str).length = 2 := by decide +kernel
    omega
  | .join k ts, f, h => by
    have e := wrs_Sz ts k.sep (k.rank + 1) (sep_len k) h.2
    have c1 : ("(" : Str).length = 1 := by decide +kernel
    have c2 : (")" : Str).length = 1 := by decide +kernel
    unfold wr Sz
    split
    · rw [len_app', len_app']; omega
    · omega
theorem wrs_Sz : ∀ (ts : List T) (sep : Str) (f : Int), sep.length = 3 → WFs ts → (wrs sep f ts).length ≤ Szs ts
  | [], _, _, _, _ => Nat.le_refl _
  | [t], sep, f, _, h => by
    have e := wr_Sz t f h.1
    rw [wrs_one]
    show _ ≤ Sz t + 3 + 0
    omega
  | t :: u :: r, sep, f, hs, h => by
    have e := wr_Sz t f h.1
    have e2 := wrs_Sz (u :: r) sep f hs h.2
    rw [wrs_two, len_app', len_app', hs]
    show _ ≤ Sz t + 3 + Szs (u :: r)
    omega
end
theorem wrs_join (sep : Str) (f : Int) : ∀ ts : List T, wrs sep f ts = Str.join sep (ts.map (wr f))
  | [] => rfl
  | [t] => by rw [wrs_one]; rfl
  | t :: u :: r => by
    rw [wrs_two, wrs_join sep f (u :: r)]
    rfl
theorem sum_Sz (f : Int) : ∀ (ts : List T), WFs ts → ((ts.map (wr f)).map (·.length)).sum + ts.length * 3 ≤ Szs ts
  | [], _ => Nat.le_refl _
  | t :: r, h => by
    have e := sum_Sz f r h.2
    have e1 := wr_Sz t f h.1
    simp only [List.map_cons, List.sum_cons, List.length_cons]
    show _ ≤ Sz t + 3 + Szs r
    omega
/-- the kind in which a piece stands: a gate, or a sum, a least, a most -/
def kfs : Option Kd → Str
  | none => "gate"
  | some k => k.nm
def kff : Option Kd → Int
  | none => 4
  | some k => k.rank + 1
def kinds_of : T → Str
  | .num _ => "number"
  | .name _ => "name"
  | .gate _ _ _ => "gate"
  | .join k _ => k.nm
def bare : Option Kd → List Str
  | none => ["number", "name", "gate"]
  | some .sum => ["number", "name", "gate"]
  | some .least => ["number", "name", "gate", "sum"]
  | some .most => ["number", "name", "gate", "sum", "least"]
/-- what needs no brackets there -/
theorem bare_iff (o : Option Kd) (t : T) : wr (kff o) t = if kinds_of t ∈ bare o then wr 0 t else "(" ++ wr 0 t ++ ")" := by
  have lit : ∀ s ∈ ([("number" : Str), "name", "gate"] : List Str), s ∈ bare o := by
    intro s hs
    cases o with
    | none => exact hs
    | some k => cases k <;> (simp only [bare, List.mem_cons] at hs ⊢; rcases hs with h | h | h | h <;> simp [h] at *)
  cases t with
  | num n => rw [if_pos (lit _ (by simp [kinds_of]))]; unfold wr; rfl
  | name n => rw [if_pos (lit _ (by simp [kinds_of]))]; unfold wr; rfl
  | gate s b t => rw [if_pos (lit _ (by simp [kinds_of]))]; conv => lhs; unfold wr
                  conv => rhs; unfold wr
  | join k ts =>
    have e : (k.nm ∈ bare o) ↔ ¬ k.rank < kff o := by
      revert k
      cases o with
      | none => intro k; cases k <;> decide +kernel
      | some k' => intro k; cases k <;> cases k' <;> decide +kernel
    have ek : kinds_of (.join k ts) = k.nm := rfl
    rw [ek]
    have e0 : wr 0 (.join k ts) = wrs k.sep (k.rank + 1) ts := by
      unfold wr
      rw [if_neg (by cases k <;> decide)]
    rw [e0]
    conv => lhs; unfold wr
    by_cases c : k.rank < kff o
    · rw [if_pos c, if_neg (fun z => e.mp z c)]
    · rw [if_neg c, if_pos (e.mpr c)]
theorem ok_WF : ∀ (d : Nat) {t : T}, TOk NameOk d t → WF t ∧ dep t ≤ d ∧ Sz t ≤ 30 * 4 ^ d
  | d, .num n, h => ⟨h.num, Nat.zero_le _, by
      have := Nat.pow_le_pow_right (n := 4) (by decide) (Nat.zero_le d)
      show 2 ≤ 30 * 4 ^ d
      omega⟩
  | d, .name s, h => ⟨True.intro, Nat.zero_le _, by
      have := Nat.pow_le_pow_right (n := 4) (by decide) (Nat.zero_le d)
      have := (name_facts h.name).2.1
      show s.length ≤ 30 * 4 ^ d
      omega⟩
  | 0, .gate _ _ _, h => h.elim
  | 0, .join _ _, h => h.elim
  | d + 1, .gate s b t, h => by
    obtain ⟨h1, h2, h3, h4⟩ := h
    obtain ⟨a, b', c⟩ := ok_WF d h4
    have l := (name_facts h1).2.1
    have p := Nat.pow_le_pow_right (n := 4) (by decide) (Nat.zero_le d)
    refine ⟨⟨⟨by omega, h3⟩, a⟩, Nat.succ_le_succ b', ?_⟩
    show s.length + 8 + Sz t ≤ 30 * 4 ^ (d + 1)
    rw [Nat.pow_succ]
    omega
  | d + 1, .join k ts, h => by
    obtain ⟨h1, h2, h3⟩ := h
    have p := Nat.pow_le_pow_right (n := 4) (by decide) (Nat.zero_le d)
    refine ⟨⟨by omega, WFs.of fun t ht => (ok_WF d (h3 t ht)).1⟩, Nat.succ_le_succ (deps_le fun t ht => (ok_WF d (h3 t ht)).2.1), ?_⟩
    have g : ∀ (l : List T), (∀ t ∈ l, TOk NameOk d t) → Szs l ≤ l.length * (30 * 4 ^ d + 3) := by
      intro l
      induction l with
      | nil => intro _; exact Nat.zero_le _
      | cons t r ih =>
        intro hl
        have e1 := (ok_WF d (hl t List.mem_cons_self)).2.2
        have e2 := ih fun u hu => hl u (List.mem_cons_of_mem _ hu)
        show Sz t + 3 + Szs r ≤ _
        rw [List.length_cons, Nat.add_mul, Nat.one_mul]
        omega
    have e := g ts h3
    have e2 : ts.length * (30 * 4 ^ d + 3) ≤ 3 * (30 * 4 ^ d + 3) := Nat.mul_le_mul_right _ h2
    show 2 + Szs ts ≤ 30 * 4 ^ (d + 1)
    rw [Nat.pow_succ]
    omega
end Aw

namespace Aw
open PySem L2
/-! ### walks in general: a comprehension's turns over whatever stands still -/
theorem walk_gen {J : It} {n : Nat} {G : Hp → Prop} {Y : Nat → Hp → V → Hp → Prop} (w : Walk J n G Y) {B : V → Hp → (Hp → Prop) → Prop} {Qd : Hp → Prop} {Hs : Hp} (Pv : Nat → Hp → Prop) (h0 : Pv 0 Hs) (hG : ∀ i H, i ≤ n → Pv i H → G H)
    (hs : ∀ i x H H', i < n → Pv i H → Y i H x H' → B x H' (Pv (i + 1))) (hd : ∀ H, Pv n H → Qd H) :
    ∃ W : Nat → Nat → Hp → Prop, (∃ m, W 0 m Hs) ∧ ∀ i m H, W i m H → (J.stop i H ∧ Qd H) ∨ (J.go i H ∧ ∃ Nx : Hp → Prop, (∀ H', Nx H' → ∃ m', m' < m ∧ W (i + 1) m' H') ∧ ∀ x H', J.yld i H x H' → B x H' Nx) := by
  refine ⟨fun i m H => m = n - i ∧ i ≤ n ∧ Pv i H, ⟨n, by simp, Nat.zero_le _, h0⟩, ?_⟩
  rintro i m H ⟨rfl, hi, p⟩
  have q := hG i H hi p
  by_cases hlt : i < n
  · exact .inr ⟨w.goes i H hlt q, Pv (i + 1), fun H' p' => ⟨n - (i + 1), by omega, rfl, hlt, p'⟩, fun x H' y => hs i x H H' hlt p (w.yields i H x H' hlt q y)⟩
  · have e : i = n := by omega
    subst e
    exact .inl ⟨w.stops H q, hd H p⟩
/-! ### the names that stand in a tree -/
mutual
def named : T → List Str
  | .num _ => []
  | .name s => [s]
  | .gate s _ t => s :: named t
  | .join _ ts => nameds ts
def nameds : List T → List Str
  | [] => []
  | t :: r => named t ++ nameds r
end
theorem nameds_take {ts : List T} {i : Nat} {t : T} (h : ts[i]? = some t) : nameds (ts.take (i + 1)) = nameds (ts.take i) ++ named t := by
  rw [take_more h]
  generalize ts.take i = l
  induction l with
  | nil =>
    show named t ++ nameds [] = [] ++ named t
    simp [nameds]
  | cons u r ih =>
    show named u ++ nameds (r ++ [t]) = (named u ++ nameds r) ++ named t
    rw [ih, List.append_assoc]
def NB : Nat → Nat
  | 0 => 1
  | d + 1 => 3 * NB d + 1
theorem NB_one : ∀ d, 1 ≤ NB d
  | 0 => Nat.le_refl 1
  | d + 1 => by show 1 ≤ 3 * NB d + 1; omega
theorem nameds_len {B : Nat} : ∀ {ts : List T}, (∀ t ∈ ts, (named t).length ≤ B) → (nameds ts).length ≤ ts.length * B
  | [], _ => Nat.zero_le _
  | t :: r, h => by
    have ih := nameds_len (ts := r) fun u hu => h u (List.mem_cons_of_mem _ hu)
    have h1 := h t List.mem_cons_self
    show (named t ++ nameds r).length ≤ _
    rw [List.length_append, List.length_cons, Nat.add_mul, Nat.one_mul]
    omega
theorem named_len {P : Str → Prop} : ∀ (d : Nat) {t : T}, TOk P d t → (named t).length ≤ NB d
  | d, .num _, _ => Nat.zero_le _
  | d, .name _, _ => NB_one d
  | 0, .gate _ _ _, h => h.elim
  | 0, .join _ _, h => h.elim
  | d + 1, .gate s n t, h => by
    have e := named_len d h.2.2.2
    show (named t).length + 1 ≤ 3 * NB d + 1
    omega
  | d + 1, .join k ts, h => by
    obtain ⟨h1, h2, h3⟩ := h
    have e := nameds_len (ts := ts) fun t ht => named_len d (h3 t ht)
    have e2 : ts.length * NB d ≤ 3 * NB d := Nat.mul_le_mul_right _ h2
    show (nameds ts).length ≤ 3 * NB d + 1
    omega
theorem NB_le : ∀ {d : Nat}, d ≤ 2 → NB d ≤ 13
  | 0, _ => by decide
  | 1, _ => by decide
  | 2, _ => by decide
  | _ + 3, h => by omega
/-- each once, in the order in which they stand first -/
def addN (acc : List Str) (s : Str) : List Str := if s ∈ acc then acc else acc ++ [s]
def once (l : List Str) : List Str := l.foldl addN []
theorem once_take {l : List Str} {i : Nat} {s : Str} (h : l[i]? = some s) : once (l.take (i + 1)) = addN (once (l.take i)) s := by
  unfold once
  rw [take_more h, List.foldl_append]
  rfl
theorem addN_len (acc : List Str) (s : Str) : (addN acc s).length ≤ acc.length + 1 := by
  unfold addN
  split
  · omega
  · rw [List.length_append, List.length_singleton]; omega
theorem once_len (l : List Str) : (once l).length ≤ l.length := by
  have g : ∀ (l acc : List Str), (l.foldl addN acc).length ≤ acc.length + l.length := by
    intro l
    induction l with
    | nil => intro acc; exact Nat.le_refl _
    | cons s r ih =>
      intro acc
      have h1 := ih (addN acc s)
      have h2 := addN_len acc s
      rw [List.foldl_cons, List.length_cons]
      omega
  have := g l []
  simpa [once] using this
/-- the dict of the names, each with True -/
def nkvs (l : List Str) : List (Key × V) := l.map fun s => (Sum.inr s, .bl true)
theorem nkvs_put (l : List Str) (s : Str) : putK (nkvs l) (Sum.inr s) (.bl true) = nkvs (addN l s) := by
  unfold putK
  have e : ((nkvs l).any fun kv => decide (kv.1 = Sum.inr s)) = decide (s ∈ l) := by
    unfold nkvs
    rw [List.any_map]
    induction l with
    | nil => rfl
    | cons a r ih =>
      rw [List.any_cons, ih]
      show (decide ((Sum.inr a : Key) = Sum.inr s) || decide (s ∈ r)) = decide (s ∈ a :: r)
      by_cases c : a = s
      · subst c; simp
      · have c2 : ¬ (Sum.inr a : Key) = Sum.inr s := by intro z; exact c (Sum.inr.inj z)
        rw [decide_eq_false c2, Bool.false_or]
        have : (s ∈ a :: r) ↔ s ∈ r := by
          rw [List.mem_cons]
          exact ⟨fun h => h.elim (fun z => absurd z.symm c) id, .inr⟩
        exact decide_eq_decide.mpr this.symm
  rw [e]
  unfold addN
  by_cases c : s ∈ l
  · rw [decide_eq_true c, if_pos rfl, if_pos c]
    have : (nkvs l).map (fun kv => if kv.1 = (Sum.inr s : Key) then (kv.1, V.bl true) else kv) = nkvs l := by
      unfold nkvs
      rw [List.map_map]
      apply List.map_congr_left
      intro a _
      show (if (Sum.inr a : Key) = Sum.inr s then ((Sum.inr a : Key), V.bl true) else ((Sum.inr a : Key), V.bl true)) = _
      split <;> rfl
    exact this
  · rw [decide_eq_false c, if_neg Bool.false_ne_true, if_neg c]
    unfold nkvs
    rw [List.map_append]
    rfl
theorem nkvs_keys (l : List Str) : (nkvs l).map (fun kv => kV kv.1) = l.map V.str := by
  unfold nkvs
  rw [List.map_map]
  rfl
theorem dp_strs {K : PySem.W.Frag} {H : Hp} : ∀ (l : List Str), DpAll K H (l.map V.str) (l.map PyData.str)
  | [] => .nil
  | s :: r => .cons (.str s) (dp_strs r)
theorem in_strs (s : Str) (l : List Str) : inV (.str s) (l.map V.str) = decide (s ∈ l) := by
  unfold inV
  rw [List.any_map]
  induction l with
  | nil => rfl
  | cons a r ih =>
    rw [List.any_cons, ih]
    show ((a == s) || decide (s ∈ r)) = decide (s ∈ a :: r)
    by_cases c : a = s
    · subst c; simp
    · have e : (a == s) = false := beq_eq_false_iff_ne.mpr c
      rw [e, Bool.false_or]
      have : (s ∈ a :: r) ↔ s ∈ r := by
        rw [List.mem_cons]
        exact ⟨fun h => h.elim (fun z => absurd z.symm c) id, .inr⟩
      exact decide_eq_decide.mpr this.symm
theorem flat_strs (l : List Str) : (l.map V.str).all flatV = true := by
  rw [List.all_map, List.all_eq_true]
  intro _ _
  rfl
theorem strOk_name {s : Str} (h : NameOk s) : PyData.strOk s = true := by
  unfold NameOk nameM at h
  have q := (Bool.and_eq_true_iff.mp h).2
  have q2 : ∀ c ∈ LET, c < 0x110000 := by decide +kernel
  unfold PyData.strOk
  rw [← Array.all_toList, List.all_eq_true]
  exact fun c hc => decide_eq_true (q2 c (of_decide_eq_true (List.all_eq_true.mp q c hc)))
theorem can_strs : ∀ (l : List Str), (∀ s ∈ l, NameOk s) → PyData.canLayAll0 (l.map PyData.str) = true
  | [], _ => by simp [PyData.canLayAll0]
  | s :: r, h => by
    show (PyData.canLay0 (.str s) && PyData.canLayAll0 (r.map PyData.str)) = true
    rw [can_strs r fun u hu => h u (List.mem_cons_of_mem _ hu), Bool.and_true]
    unfold PyData.canLay0
    exact strOk_name (h s List.mem_cons_self)
theorem depth_strs : ∀ (l : List Str), PyData.depthAll (l.map PyData.str) ≤ 1
  | [] => by show PyData.depthAll [] ≤ 1; unfold PyData.depthAll; omega
  | s :: r => by
    have ih := depth_strs r
    show max (PyData.depth (.str s)) (PyData.depthAll (r.map PyData.str)) ≤ 1
    have e : PyData.depth (.str s) ≤ 1 := by unfold PyData.depth; omega
    omega
theorem shaped_strs {l : List Str} (h : ∀ s ∈ l, NameOk s) : SeqAt.shaped (.list (l.map PyData.str)) = true := by
  unfold SeqAt.shaped
  have e1 : PyData.canLay0 (.list (l.map PyData.str)) = true := by unfold PyData.canLay0; exact can_strs l h
  have e2 : PyData.depth (.list (l.map PyData.str)) ≤ 64 := by
    have := depth_strs l
    unfold PyData.depth
    omega
  rw [e1, decide_eq_true e2]
  rfl
theorem eqv_strs {l : List Str} (h : ∀ s ∈ l, NameOk s) : PyData.eqv (.list (l.map PyData.str)) (.list (l.map PyData.str)) = true := by
  refine SeqAt.eqv_refl _ ?_
  unfold PyData.canLay0
  exact can_strs l h
mutual
theorem named_ok {P : Str → Prop} : ∀ (d : Nat) {t : T}, TOk P d t → ∀ s ∈ named t, P s
  | d, .num _, _, s, hs => by cases hs
  | d, .name z, h, s, hs => by rw [List.mem_singleton.mp hs]; exact h.name
  | 0, .gate _ _ _, h, _, _ => h.elim
  | 0, .join _ _, h, _, _ => h.elim
  | d + 1, .gate z n t, h, s, hs => by
    rcases List.mem_cons.mp hs with q | q
    · rw [q]; exact h.1
    · exact named_ok d h.2.2.2 s q
  | d + 1, .join k ts, h, s, hs => nameds_ok d h.2.2 s hs
theorem nameds_ok {P : Str → Prop} : ∀ (d : Nat) {ts : List T}, (∀ t ∈ ts, TOk P d t) → ∀ s ∈ nameds ts, P s
  | d, [], _, s, hs => by cases hs
  | d, t :: r, h, s, hs => by
    rcases List.mem_append.mp (show s ∈ named t ++ nameds r from hs) with q | q
    · exact named_ok d (h t List.mem_cons_self) s q
    · exact nameds_ok d (fun u hu => h u (List.mem_cons_of_mem _ hu)) s q
end
theorem addN_mem {acc : List Str} {s x : Str} (h : x ∈ addN acc s) : x ∈ acc ∨ x = s := by
  unfold addN at h
  split at h
  · exact .inl h
  · rcases List.mem_append.mp h with q | q
    · exact .inl q
    · exact .inr (List.mem_singleton.mp q)
theorem once_mem {l : List Str} {x : Str} (h : x ∈ once l) : x ∈ l := by
  have g : ∀ (l acc : List Str), x ∈ l.foldl addN acc → x ∈ acc ∨ x ∈ l := by
    intro l
    induction l with
    | nil => intro acc h; exact .inl h
    | cons s r ih =>
      intro acc h
      rcases ih _ h with q | q
      · rcases addN_mem q with z | z
        · exact .inl z
        · exact .inr (z ▸ List.mem_cons_self)
      · exact .inr (List.mem_cons_of_mem _ q)
  rcases g l [] h with q | q
  · cases q
  · exact q
end Aw

namespace Aw
open PySem L2 NdefX LamX
/-! ### what is made while the program runs, and called elsewhere: a thing that may be called, told by what the base holds -/
/-- a thing that may be called: Pre is what must be tracked at a call -/
structure Clo (P : Program) (w : World) (K : PySem.W.Frag) (mg : Str → Option Value) (base : Heap) (CX : CXT) (k : Nat) (f : Addr) (Pre : Hp → Prop) (sp : Sp) : Prop where
  fn : ∀ (h : Heap) (H : Hp), (∀ b o, base.get? b = some o → h.get? b = some o) → HOk P w H h → Pre H → PySem.W.FnAt f h
  run : ∀ (A : Around) (outer : List Env) (s : Shared) (H : Hp) (us : List Value) (vs : List V) (Q : VK) (E : XK), Room k A → Env0 P w K mg base A outer s H → Pre H → Vals vs us → sp vs H Q E →
    codeAny (model P w) A (.call (.ref f) ⟨us, []⟩) (CR CX outer P w H s Q E) s
theorem Clo.imp {P : Program} {w : World} {K : PySem.W.Frag} {mg : Str → Option Value} {base : Heap} {CX : CXT} {k : Nat} {f : Addr} {Pre : Hp → Prop} {sp sp' : Sp} (c : Clo P w K mg base CX k f Pre sp) (h : ∀ vs H Q E, sp' vs H Q E → sp vs H Q E) : Clo P w K mg base CX k f Pre sp' :=
  ⟨c.fn, fun A outer s H us vs Q E hr e0 hp r q => c.run A outer s H us vs Q E hr e0 hp r (h _ _ _ _ q)⟩
theorem Clo.mono {P : Program} {w : World} {K : PySem.W.Frag} {mg : Str → Option Value} {base : Heap} {CX : CXT} {k j : Nat} {f : Addr} {Pre : Hp → Prop} {sp : Sp} (c : Clo P w K mg base CX k f Pre sp) (h : k ≤ j) : Clo P w K mg base CX j f Pre sp :=
  ⟨c.fn, fun A outer s H us vs Q E hr => c.run A outer s H us vs Q E (hr.mono h)⟩
section
variable {X : Cx} {CX : CXT} {k i : Nat} {f : Addr} {Pre : Hp → Prop} {sp : Sp} {E : XK} {x : Str} {p pos : Pos} {e : Expr} {es : List Expr} {t : L2.TA}
/-- a call's end, whatever base it was proved over -/
theorem ep_of {pins : List (Addr × Obj)} {σ : L2.St} {H : Hp} {s : Shared} {Q : VK} {us : List Value} {g : Addr} (hx : Passes CX X E) (I : Inv X pins σ H s) (h : codeAny (model X.prog X.w) X.A (.call (.ref g) ⟨us, []⟩) (CR CX X.stack X.prog X.w H s Q E) s) :
    wpAny (model X.prog X.w) X.A (call (.ref g) us) (EP X pins σ Q) X.xe s := by
  refine wpAny_call (codeAny_mono h fun r s2 hq => ?_)
  match r, hq with
  | .error er, hq => exact hx pins σ H s er s2 I hq
  | .ok (.ret u), hq => exact I.after hq
  | .ok .next, hq => exact False.elim hq
  | .ok .brk, hq => exact False.elim hq
  | .ok .cont, hq => exact False.elim hq
/-- g(e, ..), g a local name that holds such a thing -/
def tClo (i : Nat) (f : Addr) (Pre : Hp → Prop) (sp : Sp) (E : XK) (t : L2.TA) : TE := fun σ H Q => σ[i]? = some (some (.ref f)) ∧ Pre H ∧ t σ H fun vs H1 => Pre H1 ∧ sp vs H1 Q E
theorem pe_clo (F : Clo X.prog X.w X.K X.mg X.base CX k f Pre sp) (hr : Room k X.A) (hx : Passes CX X E) (hN : X.N[i]? = some x) (hv : Vis X.env.scope x) (ha : PA X (e :: es) t)
    (hd : (x == ("__debug__" : Str)) = false := by decide) (hcd : (x == ("__classdict__" : Str)) = false := by decide)
    (he : starEach (e :: es) X.env = (false, eval e X.env) :: starEach es X.env := by rfl) (hpl : (backTo pos (starEach es X.env)).any (·.1) = false := by rfl) :
    PE X (.Call (.Name x p) (e :: es) [] pos) (tClo i f Pre sp E t) := by
  constructor
  intro pins s σ H Q I h
  obtain ⟨hs, hp, ht⟩ := h
  refine wpAny_Call_Name_kw (thn ((pe_var (pos := p) hN hv hd hcd).run pins s σ H (fun v H1 => v = .ref f ∧ H1 = H) I ⟨_, hs, rfl, rfl⟩) fun u sA ⟨v, HA, IA, rA, qA⟩ => ?_)
  obtain ⟨rfl, rfl⟩ := qA
  cases rA
  refine PySem.W.callWith_F (first := []) (F.fn _ _ IA.bk IA.hok hp) (thn (ha.run pos pins sA σ _ _ IA ht) fun us sB ⟨vs, HB, IB, rB, hpB, qB⟩ => ⟨F.fn _ _ IB.bk IB.hok hpB, ?_⟩) he hpl
  exact ep_of hx IB (F.run X.A X.stack sB HB us vs Q E hr IB.env0 hpB rB qB)
end
/-! ### a wider base: what is there now, untracked, and no frame's -/
section
variable {X : Cx} {pins : List (Addr × Obj)} {σ : L2.St} {H : Hp} {s : Shared}
theorem up_base (I : Inv X pins σ H s) (L : List Addr) (hL : ∀ b ∈ L, H b = none ∧ b ∉ frs X.stack) :
    ∃ B : Heap, (∀ b o, X.base.get? b = some o → B.get? b = some o) ∧ (∀ b ∈ L, B.get? b = s.heap.get? b) ∧ Env0 X.prog X.w X.K X.mg B X.A X.stack s H := by
  have e0 := I.env0
  obtain ⟨hide, hh⟩ : ∃ l : List Addr, l = (List.range s.heap.objs.size).filter fun b => !((X.base.get? b).isSome || decide (b ∈ L)) := ⟨_, rfl⟩
  have no : ∀ b, b ∈ hide → X.base.get? b = none ∧ b ∉ L := fun b hb => by
    rw [hh] at hb
    have z := (List.mem_filter.mp hb).2
    simp only [Bool.not_eq_true', Bool.or_eq_false_iff, decide_eq_false_iff_not] at z
    exact ⟨by simpa using z.1, z.2⟩
  have yes : ∀ b o, s.heap.get? b = some o → X.base.get? b = none → b ∉ L → b ∈ hide := fun b o q h1 h2 => by
    rw [hh]
    exact List.mem_filter.mpr ⟨List.mem_range.mpr (Heap.lt_size q), by simp [h1, h2]⟩
  have sub : ∀ b o, X.base.get? b = some o → (PySem.W.hideAll s.heap hide).get? b = some o := fun b o q => PySem.W.hideAll_get hide (e0.bs b o q).1 fun hm => by rw [(no b hm).1] at q; cases q
  have back : ∀ b o, (PySem.W.hideAll s.heap hide).get? b = some o → s.heap.get? b = some o ∧ ((∃ o', X.base.get? b = some o') ∨ b ∈ L) := fun b o q => by
    have z := PySem.W.of_hideAll hide q
    refine ⟨z, ?_⟩
    cases c : X.base.get? b with
    | some o' => exact .inl ⟨o', rfl⟩
    | none =>
      by_cases cl : b ∈ L
      · exact .inr cl
      · rw [PySem.W.hideAll_none hide (yes b o z c cl)] at q
        cases q
  refine ⟨PySem.W.hideAll s.heap hide, sub, fun b hb => ?_, ⟨e0.frames, ⟨e0.mod.kin.keeps sub, e0.mod.glob.keeps sub, ?_, e0.mod.nolimit.keeps sub⟩, fun b o q => ?_, Nat.le_of_eq (PySem.W.hideAll_size _ _), funFrames_none e0.funs fun b hb => ?_, e0.frf, e0.hok, e0.bare⟩⟩
  · cases c : s.heap.get? b with
    | some o => exact PySem.W.hideAll_get hide c fun hm => (no b hm).2 hb
    | none =>
      cases q : (PySem.W.hideAll s.heap hide).get? b with
      | none => rfl
      | some o =>
        have z := PySem.W.of_hideAll hide q
        rw [c] at z
        cases z
  · obtain ⟨mb, hm, hx⟩ := e0.mod.blt
    exact ⟨mb, hm.keeps sub, hx⟩
  · obtain ⟨z, c⟩ := back b o q
    refine ⟨z, ?_⟩
    rcases c with ⟨o', c⟩ | c
    · exact (e0.bs b o' c).2
    · exact (hL b c).1
  · cases q : (PySem.W.hideAll s.heap hide).get? b with
    | none => rfl
    | some o =>
      obtain ⟨_, c⟩ := back b o q
      rcases c with ⟨o', c⟩ | c
      · rw [(e0.funs.mem hb).1] at c
        cases c
      · exact absurd hb (hL b c).2
/-- a cell of the running def is no frame -/
theorem cell_nofr (I : Inv X pins σ H s) (hfn : ∀ y, X.fn y = true) {y : Str} {c : Addr} (e : X.env.cells.lookup y = some c) : H c = none ∧ c ∉ frs X.stack := by
  refine ⟨I.freeC y c e, fun hb => ?_⟩
  rcases List.mem_cons.mp (I.stkSub c hb) with q | q
  · exact I.cne y c e q
  · obtain ⟨_, o, ho, _⟩ := I.ok.funs.mem q
    exact absurd (Nat.lt_of_lt_of_le (Heap.lt_size ho) (I.ok.cab y c (hfn y) e)) (Nat.lt_irrefl _)
end
/-! ### what the captured cells hold, told of the base -/
structure CellsB (base : Heap) (cl : List (Str × Addr)) (fr : List Str) (ws : List (Option V)) : Prop where
  len : ws.length = fr.length
  all : ∀ y c, cl.lookup y = some c → ∃ v, base.IsCell c v
  inj : ∀ x y c, cl.lookup x = some c → cl.lookup y = some c → x = y
  has : ∀ (i : Nat) (y : Str), fr[i]? = some y → ∃ c, cl.lookup y = some c ∧ ∀ v, ws[i]? = some (some v) → ∃ u, RelV v u ∧ base.IsCell c (some u)
theorem CellsB.at_ {P : Program} {w : World} {K : PySem.W.Frag} {mg : Str → Option Value} {base : Heap} {A : Around} {outer : List Env} {s : Shared} {H : Hp} {cl : List (Str × Addr)} {fr : List Str} {ws : List (Option V)} (c : CellsB base cl fr ws) (e0 : Env0 P w K mg base A outer s H) : CellsAt cl fr ws s.heap H := by
  refine ⟨c.len, fun y a e => ?_, c.inj, fun i y e => ?_⟩
  · obtain ⟨v, o, ho, hd⟩ := c.all y a e
    exact ⟨(e0.bs a o ho).2, v, o, (e0.bs a o ho).1, hd⟩
  · obtain ⟨a, ha, hv⟩ := c.has i y e
    refine ⟨a, ha, fun v ev => ?_⟩
    obtain ⟨u, ru, o, ho, hd⟩ := hv v ev
    exact ⟨u, ru, o, (e0.bs a o ho).1, hd⟩
theorem CellsB.of {B h : Heap} {H : Hp} {cl : List (Str × Addr)} {fr : List Str} {ws : List (Option V)} (c : CellsAt cl fr ws h H) (k : ∀ y a, cl.lookup y = some a → B.get? a = h.get? a) : CellsB B cl fr ws := by
  refine ⟨c.len, fun y a e => ?_, c.inj, fun i y e => ?_⟩
  · obtain ⟨_, v, o, ho, hd⟩ := c.all y a e
    exact ⟨v, o, (k y a e).trans ho, hd⟩
  · obtain ⟨a, ha, hv⟩ := c.has i y e
    refine ⟨a, ha, fun v ev => ?_⟩
    obtain ⟨u, ru, o, ho, hd⟩ := hv v ev
    exact ⟨u, ru, o, (k y a ha).trans ho, hd⟩
/-! ### a lambda with parameters -/
structure LF where
  qual : Str
  params : Arguments
  body : Expr
  scope : Scope
  cl : List (Str × Addr)
  pm : Value
  c : Addr
  ctv : Value
abbrev LF.nf (F : LF) : NF := ⟨"<lambda>", F.qual, F.params, [], F.scope, F.cl, F.c⟩
abbrev LF.obj (F : LF) : Obj := PySem.W.kla_obj "<lambda>" F.qual F.params F.body F.scope F.cl F.pm F.c F.ctv
abbrev LPre (c : Addr) (q : Str) : Hp → Prop := fun H => H c = some (CodeO c q)
theorem clo_lam {P : Program} {w : World} {K : PySem.W.Frag} {mg : Str → Option Value} {base : Heap} {CX : CXT} {N ps fr : List Str} {F : LF} {f : Addr} {k : Nat} {sp : Sp} {ws : List (Option V)} (hf : base.get? f = some F.obj) (C : CellsB base F.cl fr ws) (S : NScope N ps fr F.scope)
    (hb : ∀ us : List Value, us.length = ps.length → bindArgs (PySem.W.kla_fn "<lambda>" F.qual F.params F.body F.scope F.cl F.pm (.ref F.c) F.ctv) ⟨us, []⟩ = pure (ps.zip us)) (len : ∀ vs H Q E, sp vs H Q E → vs.length = ps.length)
    (hbody : ∀ (A : Around) (outer : List Env) (s : Shared) (H : Hp) (vs : List V) (Q : VK) (E : XK), Room k (A.deeper (envF F.nf f s.heap.objs.size)) → LPre F.c F.qual H → sp vs H Q E →
      ∃ t, PE (ncx CX P w K mg base N F.nf f A outer s H E) F.body t ∧ t (startF N vs ws) H Q) : Clo P w K mg base CX (k + 1) f (LPre F.c F.qual) sp := by
  refine ⟨fun h H kb hok _ => ⟨_, none, _, #[], kb _ _ hf⟩, fun A outer s H us vs Q E hr e0 hp r hsp => ?_⟩
  have hl := len _ _ _ _ hsp
  have lim : s.heap.NoLimit := e0.mod.nolimit.keeps fun b o e => (e0.bs b o e).1
  have hfs : s.heap.get? f = some F.obj := (e0.bs _ _ hf).1
  refine PySem.W.kla_callFunE hr.depth hfs rfl S.co S.gen rfl (codeO_at e0.hok hp) ?_
  rw [hb us (by rw [← r.length]; exact hl)]
  refine wpAny_pure (wpAny_newFunctionEnv S.nocell (fun ⟨n, _⟩ hy => S.par n (List.of_mem_zip hy).1) (fun hN hns hsb => ⟨lim.fresh _ hsb, ?_⟩) S.kind)
  show codeAny _ _ (.expr F.body (envF F.nf f s.heap.objs.size)) _ _
  have kp : ∀ b o, s.heap.get? b = some o → hN.get? b = some o := fun b o e => hsb.extBut b o (Nat.ne_of_lt (Heap.lt_size e)) (Heap.get?_push_of_some _ e)
  obtain ⟨t, ht, hq⟩ := hbody A outer s H vs Q E (hr.deeper _) hp hsp
  have I : Inv (ncx CX P w K mg base N F.nf f A outer s H E) [] (startF N vs ws) H { s with heap := hN, toks := s.toks + (ps.zip us).length } := inv_startN S hr.hd e0 hl r (C.at_ e0) hns kp
  refine PySem.W.kla_codeExpr (wpAny_mono (ht.run [] _ _ H Q I hq) (fun v sE hE => ?_) fun _ _ hE => hE)
  obtain ⟨y, HE, J, rv, qE⟩ := hE
  exact ⟨y, HE, J.os, J.bare, J.base, J.hok, rv, qE⟩
section
variable {X : Cx} {CX : CXT} {k : Nat} {g : Addr} {gd : FuncData} {ps fr : List Str} {js : List Nat} {cl : List (Str × Addr)} {E : XK} {x : Str} {p pos : Pos} {e : Expr} {es : List Expr} {t : L2.TA}
theorem cells_up {pins : List (Addr × Obj)} {σ : L2.St} {H : Hp} {s : Shared} (I : Inv X pins σ H s) (hfn : ∀ y, X.fn y = true) (cp : Caps X cl fr js) : ∀ b ∈ cl.map (·.2), (∃ y, cl.lookup y = some b) → H b = none ∧ b ∉ frs X.stack := fun b _ ⟨y, e⟩ => cell_nofr I hfn (cp.sub y b e)
/-- the cells that a function captured, as addresses -/
def celsOf (cl : List (Str × Addr)) : List Addr := (cl.map (·.1)).filterMap fun y => cl.lookup y
theorem celsOf_mem {y : Str} {c : Addr} (e : cl.lookup y = some c) : c ∈ celsOf cl := List.mem_filterMap.mpr ⟨y, List.mem_map_of_mem (PySem.mem_of_lookup e), e⟩
theorem celsOf_back {c : Addr} (h : c ∈ celsOf cl) : ∃ y, cl.lookup y = some c := by
  obtain ⟨y, _, e⟩ := List.mem_filterMap.mp h
  exact ⟨y, e⟩
/-- g(e, ..), g a def of the top that will call what the running def has made: its promise may speak of what the captured names hold -/
theorem pe_up {sp : List (Option V) → Sp} (F : ∀ (B : Heap) (ws : List (Option V)), (∀ b o, X.base.get? b = some o → B.get? b = some o) → CellsB B cl fr ws → FnOk X.prog X.w X.K X.mg B CX k g gd ps (sp ws)) (hfn : ∀ y, X.fn y = true) (cp : X.Ok → Caps X cl fr js)
    (hr : Room k X.A) (hg : Gl X x) (hm : X.mg x = some (.ref g)) (hk : PySem.W.keepIn X.K (.ref g) = true) (hb : Binds X.K gd ps []) (hx : Passes CX X E) (ha : PA X (e :: es) t) (hdb : (x == ("__debug__" : Str)) = false := by decide)
    (he : starEach (e :: es) X.env = (false, eval e X.env) :: starEach es X.env := by rfl) (hpl : (backTo pos (starEach es X.env)).any (·.1) = false := by rfl) :
    PE X (.Call (.Name x p) (e :: es) [] pos) (fun σ H Q => t σ H fun vs H1 => sp (js.map (slotAt σ)) vs H1 Q E) := by
  constructor
  intro pins s σ H Q I h
  refine wpAny_Call_Name_kw (ld_glob I hg hm ?_ hdb)
  refine PySem.W.callWith_K (h₀ := X.base) I.ok.mod.kin hk (thn (ha.run pos pins s σ H _ I h) fun us sB ⟨vs, HB, IB, rB, qB⟩ => ⟨IB.kIn, ?_⟩) he hpl
  obtain ⟨B, sub, hL, e0⟩ := up_base IB (celsOf cl) fun b hb => by
    obtain ⟨y, e⟩ := celsOf_back hb
    exact cell_nofr IB hfn ((cp IB.ok).sub y b e)
  have CB : CellsB B cl fr (js.map (slotAt σ)) := .of (cells_of IB (cp IB.ok)) fun y a e => hL a (celsOf_mem e)
  have G := F B _ sub CB
  have hl : us.length = ps.length := by rw [← rB.length]; exact G.len _ _ _ _ qB
  have bd := hb sB us IB.kIn (by rw [List.append_nil]; exact hl)
  rw [List.append_nil] at bd
  exact ep_of hx IB (G.run X.A X.stack sB HB ⟨us, []⟩ us vs Q E hr e0 bd rB qB)
/-- g(e, lambda ..: body) -/
theorem pe_lam2 {T : List (Addr × Str)} {c P : Addr} {sp : Addr → Addr → List (Option V) → Sp} {e1 body : Expr} {t1 : TE} {params : Arguments} {scope : Scope} {lpos : Pos}
    (F : ∀ (B : Heap) (f : Addr) (M : LF) (ws : List (Option V)), M.qual = X.env.qual ++ "<lambda>" → M.params = params → M.body = body → M.scope = scope → (∀ b o, X.base.get? b = some o → B.get? b = some o) → B.get? f = some M.obj → CellsB B M.cl fr ws → FnOk X.prog X.w X.K X.mg B CX k g gd ps (sp f M.c ws))
    (hfn : ∀ y, X.fn y = true) (hfree : ∀ y ∈ scope.names, y.2 = .free → X.env.scope.names.lookup y.1 = some .cell ∨ X.env.scope.names.lookup y.1 = some .free) (hfr : ∀ y ∈ fr, (y, NameKind.free) ∈ scope.names) (hjs : js.map (fun j => X.N[j]?) = fr.map some)
    (hr : Room k X.A) (hg : Gl X x) (hm : X.mg x = some (.ref g)) (hk : PySem.W.keepIn X.K (.ref g) = true) (hb : Binds X.K gd ps []) (hx : Passes CX X E) (h1 : PE X e1 t1)
    (TB : TabB X.base X.mg c P) (hcode : X.env.code = .ref c) (hmT : (P, X.env.qual ++ "<lambda>") ∈ T) (hu : ∀ q ∈ T, q.1 = P → q.2 = X.env.qual ++ "<lambda>") (hdef : defaultsOf params X.env = ([], [])) (hdb : (x == ("__debug__" : Str)) = false := by decide)
    (he : starEach [e1, .Lambda params body scope lpos] X.env = (false, eval e1 X.env) :: (false, eval (.Lambda params body scope lpos) X.env) :: starEach [] X.env := by rfl) :
    PE X (.Call (.Name x p) [e1, .Lambda params body scope lpos] [] pos) (fun σ H Q => t1 σ H fun v1 H1 => Tabs T H1 ∧ ∀ (f c' : Addr) (H2 : Hp), ExtN H1 H2 → Tabs T H2 → LPre c' (X.env.qual ++ "<lambda>") H2 → sp f c' (js.map (slotAt σ)) [v1, .ref f] H2 Q E) := by
  constructor
  intro pins s σ H Q I h
  have hfre : X.Ok → ∀ y ∈ scope.names, y.2 = .free → ∃ c, X.env.cells.lookup y.1 = some c := fun ok y hy e => (hfree y hy e).elim (fun z => ok.has _ (.inl z)) fun z => ok.has _ (.inr z)
  refine wpAny_Call_Name_kw (ld_glob I hg hm ?_ hdb)
  refine PySem.W.callWith_K (h₀ := X.base) I.ok.mod.kin hk ?_ (by rw [he]; rfl) (by rfl)
  rw [he]
  show wpAny _ _ (spliced ((false, eval e1 X.env) :: (false, eval (.Lambda params body scope lpos) X.env) :: backTo pos (starEach [] X.env))) _ _ s
  refine Calls.spliced_cons (thn (h1.run pins s σ H _ I h) fun u sA ⟨v1, HA, IA, rA, hT, qA⟩ => ?_)
  refine Calls.spliced_cons (lam_make2 IA TB hcode hmT hu hT hdef (hfre IA.ok) fun f c' pm' ctv HB sB IB eN TN hf hfN hfs hco => ?_)
  refine Calls.spliced_nil ⟨IB.kIn, ?_⟩
  have cp : Caps X (cloFrom X.env.cells scope.names []) fr js := Caps.made IB.ok hfree hfr hjs
  obtain ⟨B, sub, hL, e0⟩ := up_base IB (f :: celsOf (cloFrom X.env.cells scope.names [])) fun b hb => by
    rcases List.mem_cons.mp hb with z | z
    · rw [z]; exact ⟨hfN, hfs⟩
    · obtain ⟨y, e⟩ := celsOf_back z
      exact cell_nofr IB hfn (cp.sub y b e)
  have CB : CellsB B (cloFrom X.env.cells scope.names []) fr (js.map (slotAt σ)) := .of (cells_of IB cp) fun y a e => hL a (List.mem_cons_of_mem _ (celsOf_mem e))
  have G := F B f ⟨X.env.qual ++ "<lambda>", params, body, scope, cloFrom X.env.cells scope.names [], pm', c', ctv⟩ _ rfl rfl rfl rfl sub ((hL f List.mem_cons_self).trans hf) CB
  have qB := qA f c' HB eN TN hco
  have rB : Vals [v1, .ref f] [u, .ref f] := .cons rA (.cons rfl .nil)
  have hl : ([u, .ref f] : List Value).length = ps.length := by rw [← rB.length]; exact G.len _ _ _ _ qB
  have bd := hb sB [u, .ref f] IB.kIn (by rw [List.append_nil]; exact hl)
  rw [List.append_nil] at bd
  exact ep_of hx IB (G.run X.A X.stack sB HB ⟨[u, .ref f], []⟩ [u, .ref f] [v1, .ref f] Q E hr e0 bd rB qB)
end
end Aw

namespace Aw
open PySem L2
/-! ### a recipe asked: the askings change a state S -/
section
variable {S : Type} (o : S → Str → Int) (n : S → Str → S)
def maxL : List Int → Int
  | [] => 0
  | [x] => x
  | x :: r => max x (maxL r)
mutual
def ans : T → S → Int × S
  | .num k, st => (k, st)
  | .name s, st => (o st s, n st s)
  | .gate s b t, st => if o st s < b then (0, n st s) else ans t (n st s)
  | .join .sum ts, st => (min 30 (anss ts st).1.sum, (anss ts st).2)
  | .join .most ts, st => (maxL (anss ts st).1, (anss ts st).2)
  | .join .least ts, st => ansl ts 30 st
def anss : List T → S → List Int × S
  | [], st => ([], st)
  | t :: r, st => ((ans t st).1 :: (anss r (ans t st).2).1, (anss r (ans t st).2).2)
def ansl : List T → Int → S → Int × S
  | [], cur, st => (cur, st)
  | t :: r, cur, st => if 0 < cur then ansl r (min cur (ans t st).1) (ans t st).2 else (cur, st)
end
theorem anss_snoc : ∀ (ts : List T) (t : T) (st : S), anss o n (ts ++ [t]) st = ((anss o n ts st).1 ++ [(ans o n t (anss o n ts st).2).1], (ans o n t (anss o n ts st).2).2)
  | [], t, st => by
    show anss o n [t] st = _
    unfold anss
    unfold anss
    rfl
  | u :: r, t, st => by
    have ih := anss_snoc r t (ans o n u st).2
    show anss o n (u :: (r ++ [t])) st = _
    unfold anss
    rw [ih]
    rfl
theorem anss_len : ∀ (ts : List T) (st : S), (anss o n ts st).1.length = ts.length
  | [], st => by unfold anss; rfl
  | t :: r, st => by
    unfold anss
    rw [List.length_cons, anss_len r, List.length_cons]
end
theorem maxL_is : ∀ {l : List Int} {m : Int}, m ∈ l → (∀ x ∈ l, x ≤ m) → m = maxL l
  | [x], m, h, _ => List.mem_singleton.mp h
  | x :: y :: r, m, h, hle => by
    show m = max x (maxL (y :: r))
    have g : ∀ (l : List Int), l ≠ [] → maxL l ∈ l := by
      intro l
      induction l with
      | nil => intro z; exact absurd rfl z
      | cons a r ih =>
        intro _
        cases r with
        | nil => exact List.mem_singleton.mpr rfl
        | cons b r =>
          show max a (maxL (b :: r)) ∈ _
          rcases Int.le_total a (maxL (b :: r)) with q | q
          · rw [Int.max_eq_right q]; exact List.mem_cons_of_mem _ (ih (by intro z; cases z))
          · rw [Int.max_eq_left q]; exact List.mem_cons_self
    have hm := g (y :: r) (by intro z; cases z)
    have h1 := hle x List.mem_cons_self
    have h2 := hle _ (List.mem_cons_of_mem _ hm)
    rcases List.mem_cons.mp h with q | q
    · subst q; omega
    · have ih := maxL_is q fun z hz => hle z (List.mem_cons_of_mem _ hz)
      omega
mutual
/-- the names in a tree keep D -/
def Nm (D : Str → Prop) : T → Prop
  | .num _ => True
  | .name s => D s
  | .gate s _ t => D s ∧ Nm D t
  | .join _ ts => Nms D ts
def Nms (D : Str → Prop) : List T → Prop
  | [] => True
  | t :: r => Nm D t ∧ Nms D r
end
theorem Nms.mem {D : Str → Prop} : ∀ {ts : List T} {t : T}, Nms D ts → t ∈ ts → Nm D t
  | _ :: _, _, h, .head _ => h.1
  | _ :: _, _, h, .tail _ m => Nms.mem h.2 m
theorem Nms.of {D : Str → Prop} : ∀ {ts : List T}, (∀ t ∈ ts, Nm D t) → Nms D ts
  | [], _ => True.intro
  | t :: r, h => ⟨h t List.mem_cons_self, Nms.of fun u hu => h u (List.mem_cons_of_mem _ hu)⟩
theorem nm_of {D : Str → Prop} : ∀ (d : Nat) {t : T}, TOk D d t → Nm D t
  | d, .num _, _ => True.intro
  | d, .name s, h => h.name
  | 0, .gate _ _ _, h => h.elim
  | 0, .join _ _, h => h.elim
  | d + 1, .gate s b t, h => ⟨h.1, nm_of d h.2.2.2⟩
  | d + 1, .join k ts, h => Nms.of fun t ht => nm_of d (h.2.2 t ht)
mutual
/-- how often a tree asks at most -/
def cst : T → Nat
  | .num _ => 0
  | .name _ => 1
  | .gate _ _ t => cst t + 1
  | .join _ ts => csts ts
def csts : List T → Nat
  | [] => 0
  | t :: r => csts r + cst t
end
/-- what the askings promise: J k st, as long as k askings are left -/
structure AskOk {S : Type} (o : S → Str → Int) (n : S → Str → S) (D : Str → Prop) (J : Nat → S → Prop) : Prop where
  lo : ∀ k st s, J (k + 1) st → D s → 0 ≤ o st s
  hi : ∀ k st s, J (k + 1) st → D s → o st s ≤ 30
  st : ∀ k st s, J (k + 1) st → D s → J k (n st s)
  dn : ∀ k st, J (k + 1) st → J k st
theorem AskOk.add {S : Type} {o : S → Str → Int} {n : S → Str → S} {D : Str → Prop} {J : Nat → S → Prop} (K : AskOk o n D J) {k : Nat} {st : S} : ∀ j : Nat, J (k + j) st → J k st
  | 0, h => h
  | j + 1, h => K.add j (K.dn _ _ h)
theorem AskOk.le {S : Type} {o : S → Str → Int} {n : S → Str → S} {D : Str → Prop} {J : Nat → S → Prop} (K : AskOk o n D J) {k m : Nat} {st : S} (h : J m st) (hk : k ≤ m) : J k st := K.add (m - k) (by rw [Nat.add_sub_cancel' hk]; exact h)
section
variable {S : Type} {o : S → Str → Int} {n : S → Str → S} {D : Str → Prop} {J : Nat → S → Prop} (K : AskOk o n D J)
include K
theorem sum_nn : ∀ {l : List Int}, (∀ x ∈ l, 0 ≤ x) → 0 ≤ l.sum
  | [], _ => Int.le_refl 0
  | x :: r, h => by
    rw [List.sum_cons]
    have h1 := h x List.mem_cons_self
    have h2 := sum_nn (l := r) fun y hy => h y (List.mem_cons_of_mem _ hy)
    omega
mutual
theorem ans_ok : ∀ (t : T) (k : Nat) (st : S), WF t → Nm D t → J (k + cst t) st → 0 ≤ (ans o n t st).1 ∧ (ans o n t st).1 ≤ 30 ∧ J k (ans o n t st).2
  | .num v, k, st, w, _, i => by unfold ans; exact ⟨w.1, w.2, i⟩
  | .name s, k, st, _, d, i => by unfold ans; exact ⟨K.lo k st s i d, K.hi k st s i d, K.st k st s i d⟩
  | .gate s b t, k, st, w, d, i => by
    have i' : J (k + cst t + 1) st := i
    unfold ans
    split
    · exact ⟨Int.le_refl 0, by omega, K.add _ (K.st _ st s i' d.1)⟩
    · exact ans_ok t k _ w.2 d.2 (K.st _ st s i' d.1)
  | .join .sum ts, k, st, w, d, i => by
    obtain ⟨h1, h2⟩ := anss_ok ts k st w.2 d i
    have h3 := sum_nn K (l := (anss o n ts st).1) fun x hx => (h1 x hx).1
    unfold ans
    exact ⟨by show 0 ≤ min 30 _; omega, by show min 30 _ ≤ 30; omega, h2⟩
  | .join .most ts, k, st, w, d, i => by
    obtain ⟨h1, h2⟩ := anss_ok ts k st w.2 d i
    unfold ans
    have hm : maxL (anss o n ts st).1 ∈ (anss o n ts st).1 := by
      have g : ∀ (l : List Int), l ≠ [] → maxL l ∈ l := by
        intro l
        induction l with
        | nil => intro z; exact absurd rfl z
        | cons a r ih =>
          intro _
          cases r with
          | nil => exact List.mem_singleton.mpr rfl
          | cons b r =>
            show max a (maxL (b :: r)) ∈ _
            rcases Int.le_total a (maxL (b :: r)) with q | q
            · rw [Int.max_eq_right q]; exact List.mem_cons_of_mem _ (ih (by intro z; cases z))
            · rw [Int.max_eq_left q]; exact List.mem_cons_self
      refine g _ fun z => ?_
      have e := anss_len o n ts st
      rw [z] at e
      have := w.1
      simp at e
      omega
    exact ⟨(h1 _ hm).1, (h1 _ hm).2, h2⟩
  | .join .least ts, k, st, w, d, i => by
    unfold ans
    exact ansl_ok ts 30 k st w.2 d i (by decide) (by decide)
theorem anss_ok : ∀ (ts : List T) (k : Nat) (st : S), WFs ts → Nms D ts → J (k + csts ts) st → (∀ x ∈ (anss o n ts st).1, 0 ≤ x ∧ x ≤ 30) ∧ J k (anss o n ts st).2
  | [], k, st, _, _, i => by unfold anss; exact ⟨fun x hx => (by cases hx), i⟩
  | t :: r, k, st, w, d, i => by
    have i' : J (k + csts r + cst t) st := by rw [Nat.add_assoc]; exact i
    obtain ⟨a1, a2, a3⟩ := ans_ok t (k + csts r) st w.1 d.1 i'
    obtain ⟨b1, b2⟩ := anss_ok r k (ans o n t st).2 w.2 d.2 a3
    unfold anss
    refine ⟨fun x hx => ?_, b2⟩
    rcases List.mem_cons.mp hx with q | q
    · rw [q]; exact ⟨a1, a2⟩
    · exact b1 x q
theorem ansl_ok : ∀ (ts : List T) (cur : Int) (k : Nat) (st : S), WFs ts → Nms D ts → J (k + csts ts) st → 0 ≤ cur → cur ≤ 30 → 0 ≤ (ansl o n ts cur st).1 ∧ (ansl o n ts cur st).1 ≤ 30 ∧ J k (ansl o n ts cur st).2
  | [], cur, k, st, _, _, i, h0, h1 => by unfold ansl; exact ⟨h0, h1, i⟩
  | t :: r, cur, k, st, w, d, i, h0, h1 => by
    have i' : J (k + csts r + cst t) st := by rw [Nat.add_assoc]; exact i
    obtain ⟨a1, a2, a3⟩ := ans_ok t (k + csts r) st w.1 d.1 i'
    unfold ansl
    split
    · exact ansl_ok r _ k _ w.2 d.2 a3 (by omega) (by omega)
    · exact ⟨h0, h1, K.add _ i⟩
end
end
theorem csts_drop {ts : List T} {t : T} {i : Nat} (h : ts[i]? = some t) : csts (ts.drop i) = csts (ts.drop (i + 1)) + cst t := by
  have hlt := (List.getElem?_eq_some_iff.mp h).1
  have z := (List.getElem?_eq_some_iff.mp h).2
  rw [List.drop_eq_getElem_cons hlt, z]
  rfl
/-! ### the heap around an asking -/
/-- all but what stands in M -/
def ButS (M : Addr → Prop) (H H' : Hp) : Prop := ∀ b u, H b = some u → ¬ M b → H' b = some u
theorem ButS.refl (M : Addr → Prop) (H : Hp) : ButS M H H := fun _ _ h _ => h
theorem ButS.trans {M : Addr → Prop} {H H1 H2 : Hp} (a : ButS M H H1) (b : ButS M H1 H2) : ButS M H H2 := fun c u h hc => b c u (a c u h hc) hc
theorem ButS.of_same {M : Addr → Prop} {H H1 : Hp} (a : Same H H1) : ButS M H H1 := fun c u h _ => a c u h
/-- what an asking may change: lists that hold no objects, and dicts -/
def MOk (M : Addr → Prop) (H : Hp) : Prop := ∀ b, M b → (∃ xs, H b = some (.lst xs) ∧ ∀ a r, xs ≠ .ref a :: r) ∨ ∃ kvs, H b = some (.dK kvs)
theorem MOk.keep {M : Addr → Prop} {H H' : Hp} (m : MOk M H) (b : ButS M H H') : Keep H H' := by
  refine ⟨fun c xs q => b c _ q fun hc => ?_, fun c a r q => b c _ q fun hc => ?_⟩
  · rcases m c hc with ⟨ys, e, _⟩ | ⟨kvs, e⟩ <;> (rw [q] at e; cases e)
  · rcases m c hc with ⟨ys, e, n⟩ | ⟨kvs, e⟩
    · rw [q] at e; cases e; exact n a r rfl
    · rw [q] at e; cases e
theorem MOk.tups {M : Addr → Prop} {H H' : Hp} (m : MOk M H) (b : ButS M H H') : Tups H H' := (m.keep b).1
theorem MOk.new {M : Addr → Prop} {H : Hp} (m : MOk M H) {a : Addr} (h : H a = none) : ¬ M a := fun hc => by
  rcases m a hc with ⟨xs, e, _⟩ | ⟨kvs, e⟩ <;> (rw [h] at e; cases e)
theorem MOk.code {M : Addr → Prop} {H : Hp} (m : MOk M H) {c : Addr} {q : Str} (h : LPre c q H) : ¬ M c := fun hc => by
  have h : H c = some (LamX.CodeO c q) := h
  unfold LamX.CodeO at h
  rcases m c hc with ⟨xs, e, _⟩ | ⟨kvs, e⟩ <;> (rw [h] at e; cases e)
def minL (l : List Int) : Int := l.foldl min 30
theorem minL_snoc (l : List Int) (x : Int) : minL (l ++ [x]) = min (minL l) x := by
  unfold minL
  rw [List.foldl_append]
  rfl
theorem minL_is {l : List Int} {m : Int} (hm : m ∈ l) (hle : ∀ x ∈ l, m ≤ x) (h30 : ∀ x ∈ l, x ≤ 30) : minL l = m := by
  have g : ∀ (l : List Int) (c : Int), (∀ x ∈ l, m ≤ x) → m ≤ c → (m ∈ l ∨ c = m) → l.foldl min c = m := by
    intro l
    induction l with
    | nil =>
      intro c _ _ h
      rcases h with h | h
      · cases h
      · exact h
    | cons x r ih =>
      intro c h1 h2 h3
      have hx := h1 x List.mem_cons_self
      refine ih (min c x) (fun y hy => h1 y (List.mem_cons_of_mem _ hy)) (by omega) ?_
      rcases h3 with h3 | h3
      · rcases List.mem_cons.mp h3 with z | z
        · right; omega
        · exact .inl z
      · right; omega
  exact g l 30 hle (h30 m hm) (.inl hm)
theorem ansl_zero {S : Type} {o : S → Str → Int} {n : S → Str → S} : ∀ (ts : List T) (st : S), ansl o n ts 0 st = (0, st)
  | [], st => by unfold ansl; rfl
  | t :: r, st => by unfold ansl; rw [if_neg (Int.lt_irrefl 0)]
theorem ansl_cons {S : Type} {o : S → Str → Int} {n : S → Str → S} {t : T} {r : List T} {cur : Int} {st : S} (h : 0 < cur) : ansl o n (t :: r) cur st = ansl o n r (min cur (ans o n t st).1) (ans o n t st).2 := by
  conv => lhs; unfold ansl
  rw [if_pos h]
end Aw

namespace Aw
open PySem L2
/-! ### the least numbers that fit -/
section
variable (f : Str → Int)
abbrev ansU (t : T) : Int × Unit := ans (S := Unit) (fun _ => f) (fun _ _ => ()) t ()
def ev (t : T) : Int := (ansU f t).1
def evl (ts : List T) (cur : Int) : Int := (ansl (S := Unit) (fun _ => f) (fun _ _ => ()) ts cur ()).1
theorem anssU : ∀ ts : List T, (anss (S := Unit) (fun _ => f) (fun _ _ => ()) ts ()).1 = ts.map (ev f)
  | [] => by unfold anss; rfl
  | t :: r => by
    have ih := anssU r
    unfold anss
    rw [List.map_cons, ← ih]
    rfl
theorem ev_num {k : Int} : ev f (.num k) = k := by unfold ev ansU ans; rfl
theorem ev_name {s : Str} : ev f (.name s) = f s := by unfold ev ansU ans; rfl
theorem ev_gate {s : Str} {b : Int} {t : T} : ev f (.gate s b t) = if f s < b then 0 else ev f t := by
  show (ans _ _ (.gate s b t) ()).1 = _
  unfold ans
  split <;> rfl
theorem ev_sum {ts : List T} : ev f (.join .sum ts) = min 30 (ts.map (ev f)).sum := by
  show (ans _ _ (.join .sum ts) ()).1 = _
  unfold ans
  rw [← anssU]
theorem ev_most {ts : List T} : ev f (.join .most ts) = maxL (ts.map (ev f)) := by
  show (ans _ _ (.join .most ts) ()).1 = _
  unfold ans
  rw [← anssU]
theorem ev_least {ts : List T} : ev f (.join .least ts) = evl f ts 30 := by
  show (ans _ _ (.join .least ts) ()).1 = _
  unfold ans
  rfl
theorem evl_nil {cur : Int} : evl f [] cur = cur := by unfold evl ansl; rfl
theorem evl_cons {t : T} {r : List T} {cur : Int} : evl f (t :: r) cur = if 0 < cur then evl f r (min cur (ev f t)) else cur := by
  show (ansl _ _ (t :: r) cur ()).1 = _
  unfold ansl
  split <;> rfl
end
theorem okU {f : Str → Int} (h : ∀ s, 0 ≤ f s ∧ f s ≤ 30) : AskOk (S := Unit) (fun _ => f) (fun _ _ => ()) (fun _ => True) (fun _ _ => True) :=
  ⟨fun _ _ s _ _ => (h s).1, fun _ _ s _ _ => (h s).2, fun _ _ _ _ _ => True.intro, fun _ _ _ => True.intro⟩
mutual
theorem nm_true : ∀ t : T, Nm (fun _ => True) t
  | .num _ => True.intro
  | .name _ => True.intro
  | .gate _ _ t => ⟨True.intro, nm_true t⟩
  | .join _ ts => nms_true ts
theorem nms_true : ∀ ts : List T, Nms (fun _ => True) ts
  | [] => True.intro
  | t :: r => ⟨nm_true t, nms_true r⟩
end
theorem ev_rng {f : Str → Int} (h : ∀ s, 0 ≤ f s ∧ f s ≤ 30) {t : T} (w : WF t) : 0 ≤ ev f t ∧ ev f t ≤ 30 := by
  obtain ⟨a, b, _⟩ := ans_ok (okU h) t 0 () w (nm_true t) True.intro
  exact ⟨a, b⟩
mutual
theorem ev_nn {f : Str → Int} (h : ∀ s, 0 ≤ f s) : ∀ t : T, WF t → 0 ≤ ev f t
  | .num k, w => by rw [ev_num]; exact w.1
  | .name s, _ => by rw [ev_name]; exact h s
  | .gate s b t, w => by
    rw [ev_gate]
    split
    · exact Int.le_refl 0
    · exact ev_nn h t w.2
  | .join .sum ts, w => by
    rw [ev_sum]
    have := evs_nn h ts w.2
    omega
  | .join .most ts, w => by rw [ev_most]; exact evm_nn h ts w.2
  | .join .least ts, w => by rw [ev_least]; exact evl_nn h ts 30 w.2 (by decide)
theorem evs_nn {f : Str → Int} (h : ∀ s, 0 ≤ f s) : ∀ ts : List T, WFs ts → 0 ≤ (ts.map (ev f)).sum
  | [], _ => Int.le_refl 0
  | t :: r, w => by
    have h1 := ev_nn h t w.1
    have h2 := evs_nn h r w.2
    rw [List.map_cons, List.sum_cons]
    omega
theorem evm_nn {f : Str → Int} (h : ∀ s, 0 ≤ f s) : ∀ ts : List T, WFs ts → 0 ≤ maxL (ts.map (ev f))
  | [], _ => Int.le_refl 0
  | [t], w => ev_nn h t w.1
  | t :: u :: r, w => by
    have h1 := ev_nn h t w.1
    show 0 ≤ max (ev f t) (maxL ((u :: r).map (ev f)))
    omega
theorem evl_nn {f : Str → Int} (h : ∀ s, 0 ≤ f s) : ∀ (ts : List T) (cur : Int), WFs ts → 0 ≤ cur → 0 ≤ evl f ts cur
  | [], cur, _, c => by rw [evl_nil]; exact c
  | t :: r, cur, w, c => by
    have h1 := ev_nn h t w.1
    rw [evl_cons]
    split
    · exact evl_nn h r _ w.2 (by omega)
    · exact c
end
mutual
theorem ev_mono {f g : Str → Int} (h0 : ∀ s, 0 ≤ f s) (h : ∀ s, f s ≤ g s) : ∀ t : T, WF t → ev f t ≤ ev g t
  | .num k, _ => by rw [ev_num, ev_num]; exact Int.le_refl k
  | .name s, _ => by rw [ev_name, ev_name]; exact h s
  | .gate s b t, w => by
    have ih := ev_mono h0 h t w.2
    have hs := h s
    have gn := ev_nn (fun s => Int.le_trans (h0 s) (h s)) t w.2
    rw [ev_gate, ev_gate]
    split
    · split
      · exact Int.le_refl 0
      · exact gn
    · rw [if_neg (by omega)]
      exact ih
  | .join .sum ts, w => by
    rw [ev_sum, ev_sum]
    have := evs_mono h0 h ts w.2
    omega
  | .join .most ts, w => by rw [ev_most, ev_most]; exact evm_mono h0 h ts w.2
  | .join .least ts, w => by rw [ev_least, ev_least]; exact evl_mono h0 h ts 30 30 w.2 (by decide) (Int.le_refl _)
theorem evs_mono {f g : Str → Int} (h0 : ∀ s, 0 ≤ f s) (h : ∀ s, f s ≤ g s) : ∀ ts : List T, WFs ts → (ts.map (ev f)).sum ≤ (ts.map (ev g)).sum
  | [], _ => Int.le_refl 0
  | t :: r, w => by
    have h1 := ev_mono h0 h t w.1
    have h2 := evs_mono h0 h r w.2
    rw [List.map_cons, List.map_cons, List.sum_cons, List.sum_cons]
    omega
theorem evm_mono {f g : Str → Int} (h0 : ∀ s, 0 ≤ f s) (h : ∀ s, f s ≤ g s) : ∀ ts : List T, WFs ts → maxL (ts.map (ev f)) ≤ maxL (ts.map (ev g))
  | [], _ => Int.le_refl 0
  | [t], w => ev_mono h0 h t w.1
  | t :: u :: r, w => by
    have h1 := ev_mono h0 h t w.1
    have h2 := evm_mono h0 h (u :: r) w.2
    show max (ev f t) (maxL ((u :: r).map (ev f))) ≤ max (ev g t) (maxL ((u :: r).map (ev g)))
    omega
theorem evl_mono {f g : Str → Int} (h0 : ∀ s, 0 ≤ f s) (h : ∀ s, f s ≤ g s) : ∀ (ts : List T) (c d : Int), WFs ts → 0 ≤ c → c ≤ d → evl f ts c ≤ evl g ts d
  | [], c, d, _, _, le => by rw [evl_nil, evl_nil]; exact le
  | t :: r, c, d, w, c0, le => by
    have h1 := ev_mono h0 h t w.1
    have h2 := ev_nn h0 t w.1
    have gn := evl_nn (fun s => Int.le_trans (h0 s) (h s)) (t :: r) d w (by omega)
    rw [evl_cons]
    split
    · rw [evl_cons, if_pos (by omega)]
      exact evl_mono h0 h r _ _ w.2 (by omega) (by omega)
    · omega
end
/-! ### rounds -/
def put1 (x : Str → Int) (s : Str) (v : Int) : Str → Int := fun z => if z = s then v else x z
/-- what stands on the way up: below each answer, below all that fit -/
structure Up (ws : List Str) (rc : Str → T) (x0 x : Str → Int) : Prop where
  out : ∀ s, s ∉ ws → x s = x0 s
  rng : ∀ s, 0 ≤ x s ∧ x s ≤ 30
  up : ∀ s, s ∈ ws → x s ≤ ev x (rc s)
  low : ∀ y : Str → Int, (∀ s, 0 ≤ y s) → (∀ s, s ∉ ws → x0 s ≤ y s) → (∀ s, s ∈ ws → ev y (rc s) ≤ y s) → ∀ s, x s ≤ y s
theorem Up.start {ws : List Str} {rc : Str → T} {x0 : Str → Int} (w : ∀ s ∈ ws, WF (rc s)) (h : ∀ s, 0 ≤ x0 s ∧ x0 s ≤ 30) (z : ∀ s, s ∈ ws → x0 s = 0) : Up ws rc x0 x0 :=
  ⟨fun _ _ => rfl, h, fun s hs => by rw [z s hs]; exact ev_nn (fun s => (h s).1) _ (w s hs), fun y y0 yo _ s => by
    by_cases c : s ∈ ws
    · rw [z s c]; exact y0 s
    · exact yo s c⟩
theorem Up.step {ws : List Str} {rc : Str → T} {x0 x : Str → Int} (w : ∀ s ∈ ws, WF (rc s)) (u : Up ws rc x0 x) {s : Str} (hs : s ∈ ws) : Up ws rc x0 (put1 x s (ev x (rc s))) ∧ ∀ z, x z ≤ put1 x s (ev x (rc s)) z := by
  have le : ∀ z, x z ≤ put1 x s (ev x (rc s)) z := fun z => by
    unfold put1
    split
    · next e => rw [e]; exact u.up s hs
    · exact Int.le_refl _
  refine ⟨⟨fun z hz => ?_, fun z => ?_, fun z hz => ?_, fun y y0 yo yw z => ?_⟩, le⟩
  · unfold put1
    rw [if_neg (fun e => hz (by rw [e]; exact hs))]
    exact u.out z hz
  · unfold put1
    split
    · exact ev_rng u.rng (w s hs)
    · exact u.rng z
  · have m := ev_mono (fun s => (u.rng s).1) le (rc z) (w z hz)
    unfold put1 at m ⊢
    split
    · next e => rw [e] at m ⊢; exact m
    · exact Int.le_trans (u.up z hz) m
  · have l := u.low y y0 yo yw
    unfold put1
    split
    · next e =>
      rw [e]
      exact Int.le_trans (ev_mono (fun s => (u.rng s).1) l (rc s) (w s hs)) (yw s hs)
    · exact l z
def rnd (rc : Str → T) : List Str → (Str → Int) → Str → Int
  | [], x => x
  | s :: r, x => rnd rc r (put1 x s (ev x (rc s)))
theorem Up.rnd {ws : List Str} {rc : Str → T} {x0 : Str → Int} (w : ∀ s ∈ ws, WF (rc s)) : ∀ (l : List Str) {x : Str → Int}, Up ws rc x0 x → (∀ s ∈ l, s ∈ ws) → Up ws rc x0 (rnd rc l x) ∧ ∀ z, x z ≤ Aw.rnd rc l x z
  | [], x, u, _ => ⟨u, fun z => Int.le_refl _⟩
  | s :: r, x, u, h => by
    obtain ⟨u1, l1⟩ := u.step w (h s List.mem_cons_self)
    obtain ⟨u2, l2⟩ := Up.rnd w r u1 fun z hz => h z (List.mem_cons_of_mem _ hz)
    exact ⟨u2, fun z => Int.le_trans (l1 z) (l2 z)⟩
/-- a round that changes nothing has come to numbers that fit -/
theorem rnd_fix {ws : List Str} {rc : Str → T} {x0 : Str → Int} (w : ∀ s ∈ ws, WF (rc s)) : ∀ (l : List Str) {x : Str → Int}, Up ws rc x0 x → (∀ s ∈ l, s ∈ ws) → (∀ z, rnd rc l x z = x z) → ∀ s ∈ l, x s = ev x (rc s)
  | [], _, _, _, _, s, hs => by cases hs
  | a :: r, x, u, h, e, s, hs => by
    obtain ⟨u1, l1⟩ := u.step w (h a List.mem_cons_self)
    obtain ⟨u2, l2⟩ := Up.rnd w r u1 fun z hz => h z (List.mem_cons_of_mem _ hz)
    have same : put1 x a (ev x (rc a)) = x := by
      funext z
      have h1 := l1 z
      have h2 := l2 z
      have h3 := e z
      unfold rnd at h3
      omega
    have ea : x a = ev x (rc a) := by
      have z := congrFun same a
      unfold put1 at z
      rw [if_pos rfl] at z
      exact z.symm
    rcases List.mem_cons.mp hs with q | q
    · rw [q]; exact ea
    · refine rnd_fix w r u (fun z hz => h z (List.mem_cons_of_mem _ hz)) (fun z => ?_) s q
      have h3 := e z
      unfold rnd at h3
      rw [same] at h3
      exact h3
def gap (ws : List Str) (x : Str → Int) : Nat := (ws.map fun s => (30 - x s).toNat).sum
theorem gap_le {x y : Str → Int} (h : ∀ z, x z ≤ y z) : ∀ ws : List Str, gap ws y ≤ gap ws x
  | [] => Nat.le_refl _
  | s :: r => by
    have ih := gap_le h r
    have hs := h s
    unfold gap at ih ⊢
    rw [List.map_cons, List.map_cons, List.sum_cons, List.sum_cons]
    omega
theorem gap_lt {x y : Str → Int} (h : ∀ z, x z ≤ y z) (t : ∀ z, y z ≤ 30) : ∀ {ws : List Str} {s : Str}, s ∈ ws → x s < y s → gap ws y < gap ws x
  | a :: r, s, hs, lt => by
    have ha := h a
    have ta := t a
    have le := gap_le h r
    unfold gap at le ⊢
    rw [List.map_cons, List.map_cons, List.sum_cons, List.sum_cons]
    rcases List.mem_cons.mp hs with q | q
    · subst q; omega
    · have ih := gap_lt h t q lt
      unfold gap at ih
      omega
/-- the least numbers that fit -/
structure Lfp (ws : List Str) (rc : Str → T) (x0 x : Str → Int) : Prop where
  out : ∀ s, s ∉ ws → x s = x0 s
  rng : ∀ s, 0 ≤ x s ∧ x s ≤ 30
  fit : ∀ s, s ∈ ws → x s = ev x (rc s)
  low : ∀ y : Str → Int, (∀ s, 0 ≤ y s) → (∀ s, s ∉ ws → x0 s ≤ y s) → (∀ s, s ∈ ws → ev y (rc s) ≤ y s) → ∀ s, x s ≤ y s
theorem Up.lfp {ws : List Str} {rc : Str → T} {x0 x : Str → Int} (w : ∀ s ∈ ws, WF (rc s)) (u : Up ws rc x0 x) (e : ∀ z, Aw.rnd rc ws x z = x z) : Lfp ws rc x0 x := ⟨u.out, u.rng, rnd_fix w ws u (fun _ h => h) e, u.low⟩
theorem Lfp.one {ws : List Str} {rc : Str → T} {x0 x y : Str → Int} (a : Lfp ws rc x0 x) (b : Lfp ws rc x0 y) (s : Str) : x s = y s := by
  have h1 := a.low y (fun s => (b.rng s).1) (fun s h => Int.le_of_eq (b.out s h).symm) (fun s h => Int.le_of_eq (b.fit s h).symm) s
  have h2 := b.low x (fun s => (a.rng s).1) (fun s h => Int.le_of_eq (a.out s h).symm) (fun s h => Int.le_of_eq (a.fit s h).symm) s
  omega
end Aw

namespace Aw
open PySem L2
/-! ### dicts of numbers by names -/
theorem hits_int {A : Around} {s : Shared} {ls : List (Key × V)} {vb : List (Key × Value)} (rb : KV ls vb) : ∀ {ks : List (Key × V)} {va : List (Key × Value)}, KV ks va → (∀ p ∈ ks, ∃ i j : Int, p.2 = .int i ∧ valV ls p.1 = some (.int j)) →
    PySem.W.KeqHits A s vb va (ks.all fun p => decide (valV ls p.1 = some p.2)) := by
  intro ks va ra
  unfold KV at ra
  induction ra with
  | nil => intro _; exact .nil
  | @cons p q ps qs h t ih =>
    intro hp
    obtain ⟨h1, h2⟩ := h
    obtain ⟨i, j, e, f⟩ := hp p List.mem_cons_self
    have rr : RelO (some (.int j)) (valueAt vb p.1) := by rw [← f]; exact rb.val p.1
    obtain ⟨y, hy, ry⟩ := rr.some_of
    obtain ⟨k, v⟩ := q
    have h1' : p.1 = k := h1
    rw [h1'] at hy
    rw [e] at h2
    obtain ⟨t1, rfl⟩ := (show ∃ t, v = Value.int i t from h2)
    obtain ⟨t2, rfl⟩ := (show ∃ t, y = Value.int j t from ry)
    rw [List.all_cons]
    have ee : decide (valV ls p.1 = some p.2) = decide (i = j) := by
      rw [f, e]
      by_cases c : i = j
      · subst c; rw [decide_eq_true rfl, decide_eq_true rfl]
      · rw [decide_eq_false (fun z => c (V.int.inj (Option.some.inj z)).symm), decide_eq_false c]
    rw [ee]
    exact .hit hy (PySem.SeqAt.EqAt.int_int i t1 j t2) (ih fun p' hm => hp p' (List.mem_cons_of_mem _ hm))
section
variable {X : Cx}
def rNeDI : R2 := fun x y H Q => ∃ a b ks ls, x = .ref a ∧ y = .ref b ∧ H a = some (.dK ks) ∧ H b = some (.dK ls) ∧ ks.length = ls.length ∧ (∀ p ∈ ks, ∃ i j : Int, p.2 = .int i ∧ valV ls p.1 = some (.int j)) ∧ Q (.bl (!(ks.all fun p => decide (valV ls p.1 = some p.2)))) H
theorem op_ne_dictI (hu : X.A.units < cLine) : OpR X (compareOp .NotEq) rNeDI := by
  intro pins s σ H x y v u Q I rx ry h
  obtain ⟨a, b, ks, ls, rfl, rfl, ea, eb, hlen, hp, q⟩ := h
  obtain rfl : v = Value.ref a := rx
  obtain rfl : u = Value.ref b := ry
  obtain ⟨_, ya, va, ra, da⟩ := (show ObjOk X.prog X.w H s.heap a (.dK ks) from I.hok a _ ea)
  obtain ⟨_, yb, vb, rb, db⟩ := (show ObjOk X.prog X.w H s.heap b (.dK ls) from I.hok b _ eb)
  have hl : va.length = vb.length := by rw [← ra.length, ← rb.length]; exact hlen
  exact PySem.W.keq_ne (knd := mixKind X.prog X.w) ya yb da db hu (fun _ => hits_int rb ra hp) (fin_bl I q (by simp [hl]))
end
def num (kvs : List (Key × V)) (s : Str) : Int := match valV kvs (Sum.inr s) with
  | some (.int v) => v
  | _ => 0
/-- names with numbers from 0 to 30, each once -/
structure SD (kvs : List (Key × V)) : Prop where
  nd : (kvs.map (·.1)).Nodup
  ok : ∀ p ∈ kvs, ∃ (s : Str) (i : Int), p = (Sum.inr s, .int i) ∧ 0 ≤ i ∧ i ≤ 30
theorem valV_mem {κ : Type} [DecidableEq κ] {k : κ} {v : V} : ∀ {kvs : List (κ × V)}, valV kvs k = some v → (k, v) ∈ kvs
  | [], h => by cases h
  | p :: r, h => by
    by_cases e : p.1 = k
    · rw [valV_pos e] at h
      cases h
      rw [← e]
      exact List.mem_cons_self
    · rw [valV_neg e] at h
      exact List.mem_cons_of_mem _ (valV_mem h)
theorem mem_valV {κ : Type} [DecidableEq κ] {p : κ × V} : ∀ {kvs : List (κ × V)}, (kvs.map (·.1)).Nodup → p ∈ kvs → valV kvs p.1 = some p.2
  | q :: r, nd, h => by
    rw [List.map_cons, List.nodup_cons] at nd
    rcases List.mem_cons.mp h with e | e
    · rw [e]; exact valV_pos rfl
    · rw [valV_neg (fun z => nd.1 (by rw [z]; exact List.mem_map_of_mem e))]
      exact mem_valV nd.2 e
theorem SD.rng {kvs : List (Key × V)} (d : SD kvs) (s : Str) : 0 ≤ num kvs s ∧ num kvs s ≤ 30 := by
  unfold num
  split
  · next v e =>
    obtain ⟨s', i, e', h0, h1⟩ := d.ok _ (valV_mem e)
    cases e'
    exact ⟨h0, h1⟩
  · exact ⟨Int.le_refl 0, by decide⟩
theorem SD.val {kvs : List (Key × V)} (d : SD kvs) {s : Str} {v : V} (e : valV kvs (Sum.inr s) = some v) : v = .int (num kvs s) := by
  obtain ⟨s', i, e', _, _⟩ := d.ok _ (valV_mem e)
  cases e'
  unfold num
  rw [e]
theorem num_get {kvs : List (Key × V)} (d : SD kvs) (s : Str) : (valV kvs (Sum.inr s)).getD (.int 0) = .int (num kvs s) := by
  cases e : valV kvs (Sum.inr s) with
  | none =>
    unfold num
    rw [e]
    rfl
  | some v => rw [d.val e]; rfl
theorem num_put (kvs : List (Key × V)) (s : Str) (v : Int) : num (putK kvs (Sum.inr s) (.int v)) = put1 (num kvs) s v := by
  funext z
  unfold num put1
  rw [valV_put]
  by_cases c : z = s
  · subst c
    rw [if_pos rfl, if_pos rfl]
  · rw [if_neg (fun e => c (Sum.inr.inj e)), if_neg c]
theorem keys_put {kvs : List (Key × V)} {k : Key} {v : V} (h : (valV kvs k).isSome = true) : (putK kvs k v).map (·.1) = kvs.map (·.1) := by
  unfold putK
  rw [valV_any, if_pos h, List.map_map]
  congr 1
  funext p
  simp only [Function.comp]
  split <;> rfl
theorem SD.put {kvs : List (Key × V)} (d : SD kvs) {s : Str} {v : Int} (h : (valV kvs (Sum.inr s)).isSome = true) (h0 : 0 ≤ v) (h1 : v ≤ 30) : SD (putK kvs (Sum.inr s) (.int v)) := by
  refine ⟨by rw [keys_put h]; exact d.nd, fun p hp => ?_⟩
  unfold putK at hp
  rw [valV_any, if_pos h] at hp
  obtain ⟨q, hq, e⟩ := List.mem_map.mp hp
  by_cases c : q.1 = Sum.inr s
  · rw [if_pos c, c] at e
    exact ⟨s, v, e.symm, h0, h1⟩
  · rw [if_neg c] at e
    rw [← e]
    exact d.ok q hq
def rndK (rc : Str → T) : List Str → List (Key × V) → List (Key × V)
  | [], k => k
  | s :: r, k => rndK rc r (putK k (Sum.inr s) (.int (ev (num k) (rc s))))
theorem num_rnd (rc : Str → T) : ∀ (l : List Str) (k : List (Key × V)), num (rndK rc l k) = rnd rc l (num k)
  | [], k => rfl
  | s :: r, k => by
    show num (rndK rc r _) = rnd rc r _
    rw [num_rnd rc r, num_put]
theorem rndK_snoc (rc : Str → T) : ∀ (l : List Str) (s : Str) (k : List (Key × V)), rndK rc (l ++ [s]) k = putK (rndK rc l k) (Sum.inr s) (.int (ev (num (rndK rc l k)) (rc s)))
  | [], s, k => rfl
  | a :: r, s, k => rndK_snoc rc r s _
theorem rndK_ok {rc : Str → T} : ∀ {l : List Str} {k : List (Key × V)}, SD k → (∀ s ∈ l, WF (rc s)) → (∀ s ∈ l, (valV k (Sum.inr s)).isSome = true) → SD (rndK rc l k) ∧ (rndK rc l k).map (·.1) = k.map (·.1)
  | [], k, d, _, _ => ⟨d, rfl⟩
  | s :: r, k, d, w, h => by
    have hs := h s List.mem_cons_self
    obtain ⟨v0, v1⟩ := ev_rng d.rng (w s List.mem_cons_self)
    obtain ⟨a, b⟩ := rndK_ok (rc := rc) (l := r) (d.put hs v0 v1) (fun z hz => w z (List.mem_cons_of_mem _ hz)) (fun z hz => by
      rw [valV_put]
      split
      · rfl
      · exact h z (List.mem_cons_of_mem _ hz))
    exact ⟨a, b.trans (keys_put hs)⟩
theorem key_some {kvs : List (Key × V)} {k : Key} : (valV kvs k).isSome = true ↔ k ∈ kvs.map (·.1) := by
  constructor
  · intro h
    cases e : valV kvs k with
    | none => rw [e] at h; cases h
    | some v => exact List.mem_map.mpr ⟨_, valV_mem e, rfl⟩
  · intro h
    obtain ⟨p, hp, e⟩ := List.mem_map.mp h
    rw [← e, ← valV_any]
    exact List.any_eq_true.mpr ⟨p, hp, decide_eq_true rfl⟩
/-- two such dicts of the same names compared -/
theorem all_same {ks ls : List (Key × V)} (a : SD ks) (b : SD ls) (hk : ks.map (·.1) = ls.map (·.1)) :
    ks.length = ls.length ∧ (∀ p ∈ ks, ∃ i j : Int, p.2 = .int i ∧ valV ls p.1 = some (.int j)) ∧ ((ks.all fun p => decide (valV ls p.1 = some p.2)) = true → ∀ z, num ks z = num ls z) ∧ ((ks.all fun p => decide (valV ls p.1 = some p.2)) = false → ∃ z, num ks z ≠ num ls z) := by
  have hin : ∀ p ∈ ks, ∃ i j : Int, p.2 = .int i ∧ valV ls p.1 = some (.int j) := fun p hp => by
    obtain ⟨s, i, e, _, _⟩ := a.ok p hp
    subst e
    have hm : (Sum.inr s : Key) ∈ ls.map (·.1) := by rw [← hk]; exact List.mem_map_of_mem hp
    obtain ⟨v, hv⟩ := Option.isSome_iff_exists.mp (key_some.mpr hm)
    obtain ⟨s', j, e', _, _⟩ := b.ok _ (valV_mem hv)
    cases e'
    exact ⟨i, j, rfl, hv⟩
  refine ⟨by have := congrArg List.length hk; simpa using this, hin, fun h z => ?_, fun h => ?_⟩
  · cases e : valV ks (Sum.inr z) with
    | some v =>
      have hv := a.val e
      subst hv
      have q := of_decide_eq_true (List.all_eq_true.mp h _ (valV_mem e))
      have := b.val q
      exact V.int.inj this
    | none =>
      have e2 : valV ls (Sum.inr z) = none := by
        cases e2 : valV ls (Sum.inr z) with
        | none => rfl
        | some v =>
          have : (Sum.inr z : Key) ∈ ks.map (·.1) := by rw [hk]; exact key_some.mp (by rw [e2]; rfl)
          have := key_some.mpr this
          rw [e] at this
          cases this
      unfold num
      rw [e, e2]
  · obtain ⟨p, hp, hn⟩ := List.all_eq_false.mp h
    obtain ⟨s, i, e, _, _⟩ := a.ok p hp
    subst e
    have h1 := mem_valV a.nd hp
    refine ⟨s, fun z => hn (decide_eq_true ?_)⟩
    obtain ⟨i', j, e1, e2⟩ := hin _ hp
    have h3 := b.val e2
    have h4 := a.val h1
    show valV ls (Sum.inr s) = some (.int i)
    rw [e2, h3, ← z]
    exact congrArg some h4.symm
end Aw

namespace Aw
open PySem L2 PySem.Spec PyProof.Rows
section
variable {X : Cx}
/-- a dict comprehension over one walk, given to a local name of the def -/
theorem ps_setDc {j : Nat} {z : Str} {pz p pst : Pos} {ke ve tgt it : Expr} {cs : List Expr} {sc : Scope} {ow : List (Str × Nat)} {wt : TI} {gt : TG} {ct : TT} {kt vt : TE} (cm : X.calm = true) (ndN : X.N.Nodup) (zj : X.N[j]? = some z) (zl : X.env.scope.names.lookup z = some .local)
    (sw : swapsWith (.DictComp ke ve [⟨tgt, it, cs, 0⟩] sc p) (some (.Name z pz)) pst.line X.env = pure true) (pit : PI X tgt it wt) (bo : BlkOk X.N X.env.scope sc ow)
    (pg : ∀ s H C cl fp, PG (X.blk s H sc (compEnvC sc cl C X.env) fp) tgt gt) (pt : ∀ s H C cl fp, PTs (X.blk s H sc (compEnvC sc cl C X.env) fp) cs ct)
    (pk : ∀ s H C cl fp, PE (X.blk s H sc (compEnvC sc cl C X.env) fp) ke kt) (pv : ∀ s H C cl fp, PE (X.blk s H sc (compEnvC sc cl C X.env) fp) ve vt) (nf : ∀ x, foldedSetIterable it X.env x = pure x := by intro _; rfl) :
    PS X (.Assign [.Name z pz] (.DictComp ke ve [⟨tgt, it, cs, 0⟩] sc p) pst) (tAsg (tDc wt gt ct kt vt (ow.map (·.2))) (gName j)) := by
  refine ⟨fun pn s0 st H0 En J hd => ?_⟩
  have hd' : tDc wt gt ct kt vt (ow.map (·.2)) st H0 (fun x H1 => gName j x st H1 En.nx) := hd
  rw [PySem.exec_Assign_Name_used _ _ _ _ sw]
  refine wpAny_bind (wpAny_standAt (wpAny_bind ?_))
  refine wpAny_bind (thn (dc_core (use := some (assign (.Name z pz) X.env)) (Qf := fun _ s' => SP X pn En .next s') (pos' := firstIterPos [⟨tgt, it, cs, 0⟩] p) cm ndN J pit bo pg pt pk pv nf hd' fun L C s1 m H1 J1 q1 hn fo => ?_) fun _ s2 hq => wpAny_pure (wpAny_pure hq))
  show wpAny _ _ (assign (.Name z pz) X.env (.ref L)) _ _ _
  refine wpAny_assign_Name (store_ok2 (v := V.ref L) J1 ndN zj (.inl zl) rfl (fun s2 J2 ⟨a, sb, ha⟩ => ?_) (.inr zl))
  obtain ⟨g0, g1, g2, g3, g4, g5⟩ := fo
  refine ⟨m, hn.sameBut sb (by rcases ha with e | e; (rw [e]; exact g1); exact fun w => g4 z a e w.symm), fun h3 sb3 => ⟨_, H1, J2.turned (t' := s2.toks) (fun b o hb e => (sb3.2 b hb).trans e) g0 g1 g3 g4 g5, q1⟩⟩
theorem sw_dict {ke ve : Expr} {gs : List Comprehension} {sc : Scope} {p pz : Pos} {z : Str} {l : Nat} {env : Env} (k : env.scope.kind = .function) (zl : env.scope.names.lookup z = some .local) (ln : (pz.line == p.line) = true)
    (own : (sc.names.any fun (n, k) => n == z && (k == .local || k == .cell)) = false) : swapsWith (.DictComp ke ve gs sc p) (some (.Name z pz)) l env = pure true := by
  have a1 : env.kindOf z = some .local := zl
  have a2 : env.blockKind = .function := by rw [Env.blockKind, k]; rfl
  simp only [swapsWith, a2, a1, own, Expr.pos, ln]
  rfl
end
end Aw

namespace Aw
open PySem L2
/-! ### names that lean on names: where they lead -/
/-- a dict of lists of names: each name, where its list lies, the list -/
abbrev LM := List (Str × Addr × List Str)
def kvL (m : LM) : List (Key × V) := m.map fun p => (Sum.inr p.1, V.ref p.2.1)
def lkp : LM → Str → Option (Addr × List Str)
  | [], _ => none
  | p :: r, s => if p.1 = s then some p.2 else lkp r s
def lof (m : LM) (s : Str) : List Str := match lkp m s with
  | some p => p.2
  | none => []
def tot (m : LM) : Nat := (m.map fun p => p.2.2.length).sum
theorem kvL_val (m : LM) (s : Str) : valV (kvL m) (Sum.inr s) = (lkp m s).map fun p => V.ref p.1 := by
  induction m with
  | nil => rfl
  | cons p r ih =>
    unfold lkp
    by_cases e : p.1 = s
    · rw [if_pos e]
      exact valV_pos (by show (Sum.inr p.1 : Key) = Sum.inr s; rw [e])
    · rw [if_neg e, ← ih]
      exact valV_neg (fun z => e (Sum.inr.inj z))
theorem lkp_mem {m : LM} {s : Str} {p : Addr × List Str} (h : lkp m s = some p) : (s, p.1, p.2) ∈ m := by
  induction m with
  | nil => cases h
  | cons q r ih =>
    unfold lkp at h
    by_cases e : q.1 = s
    · rw [if_pos e] at h
      cases h
      subst e
      exact List.mem_cons_self
    · rw [if_neg e] at h
      exact List.mem_cons_of_mem _ (ih h)
theorem mem_tot {m : LM} {p : Str × Addr × List Str} (h : p ∈ m) : p.2.2.length ≤ tot m := by
  induction m with
  | nil => cases h
  | cons q r ih =>
    unfold tot
    rw [List.map_cons, List.sum_cons]
    rcases List.mem_cons.mp h with e | e
    · rw [e]; omega
    · have := ih e; unfold tot at this; omega
theorem lof_len (m : LM) (s : Str) : (lof m s).length ≤ tot m := by
  unfold lof
  split
  · next p h => exact mem_tot (lkp_mem h)
  · exact Nat.zero_le _
def uni (m : LM) : List Str := (m.map fun p => p.2.2).flatten
theorem uni_len (m : LM) : (uni m).length = tot m := by
  unfold uni tot
  rw [List.length_flatten, List.map_map]
  rfl
theorem lof_uni {m : LM} {s x : Str} (h : x ∈ lof m s) : x ∈ uni m := by
  unfold lof at h
  split at h
  · next p e => exact List.mem_flatten.mpr ⟨p.2, List.mem_map.mpr ⟨_, lkp_mem e, rfl⟩, h⟩
  · cases h
/-- b is led to from a, over one step or more -/
inductive Rch (f : Str → List Str) : Str → Str → Prop
  | one {a b : Str} : b ∈ f a → Rch f a b
  | more {a b c : Str} : Rch f a b → c ∈ f b → Rch f a c
theorem Rch.trans {f : Str → List Str} {a b c : Str} (h1 : Rch f a b) (h2 : Rch f b c) : Rch f a c := by
  induction h2 with
  | one h => exact .more h1 h
  | more _ h ih => exact .more ih h
theorem Rch.head {f : Str → List Str} {a b c : Str} (h1 : b ∈ f a) (h2 : Rch f b c) : Rch f a c := Rch.trans (.one h1) h2
theorem Rch.uni {m : LM} {a b : Str} (h : Rch (lof m) a b) : b ∈ uni m := by
  cases h with
  | one h => exact lof_uni h
  | more _ h => exact lof_uni h
/-- a set that holds what the first leans on and is closed holds all that is led to -/
theorem Rch.closed {f : Str → List Str} {S : Str → Prop} {a b : Str} (h0 : ∀ x ∈ f a, S x) (hs : ∀ x, S x → ∀ y ∈ f x, S y) (h : Rch f a b) : S b := by
  induction h with
  | one h => exact h0 _ h
  | more _ h ih => exact hs _ ih _ h
theorem nodup_sub : ∀ {l u : List Str}, l.Nodup → (∀ x ∈ l, x ∈ u) → l.length ≤ u.length
  | [], _, _, _ => Nat.zero_le _
  | a :: l, u, nd, h => by
    rw [List.nodup_cons] at nd
    have ha := h a List.mem_cons_self
    have ih := nodup_sub (l := l) (u := u.erase a) nd.2 fun x hx => (List.mem_erase_of_ne (fun e => nd.1 (by rw [← e]; exact hx))).mpr (h x (List.mem_cons_of_mem _ hx))
    rw [List.length_erase_of_mem ha] at ih
    have := List.length_pos_of_mem ha
    rw [List.length_cons]
    omega
/-- what is found and what waits, while it is looked where a name leads -/
structure Seek (m : LM) (s : Str) (fd wt : List Str) : Prop where
  nd : fd.Nodup
  rf : ∀ x ∈ fd, Rch (lof m) s x
  rw : ∀ x ∈ wt, Rch (lof m) s x
  c0 : ∀ x ∈ lof m s, x ∈ fd ∨ x ∈ wt
  c1 : ∀ x ∈ fd, ∀ y ∈ lof m x, y ∈ fd ∨ y ∈ wt
  ln : wt.length ≤ (fd.length + 1) * tot m
theorem Seek.start (m : LM) (s : Str) : Seek m s [] (lof m s) :=
  ⟨List.nodup_nil, fun x h => (by cases h), fun x h => .one h, fun x h => .inr h, fun x h => (by cases h), by have := lof_len m s; simp; omega⟩
theorem Seek.fl {m : LM} {s : Str} {fd wt : List Str} (h : Seek m s fd wt) : fd.length ≤ tot m := by
  rw [← uni_len]
  exact nodup_sub h.nd fun x hx => (h.rf x hx).uni
theorem mem_dl {l : List Str} {x : Str} (h : x ∈ l.dropLast) : x ∈ l := (List.dropLast_sublist l).subset h
theorem mem_last {wt : List Str} {o : Str} (e : wt[wt.length - 1]? = some o) {x : Str} (h : x ∈ wt) : x ∈ wt.dropLast ∨ x = o := by
  have hne : wt ≠ [] := fun z => by subst z; cases h
  have hl : wt.getLast hne = o := by
    rw [List.getLast_eq_getElem]
    have := (List.getElem?_eq_some_iff.mp e).2
    exact this
  rw [← List.dropLast_concat_getLast hne, hl] at h
  rcases List.mem_append.mp h with q | q
  · exact .inl q
  · exact .inr (List.mem_singleton.mp q)
theorem Seek.skip {m : LM} {s : Str} {fd wt : List Str} {o : Str} (h : Seek m s fd wt) (e : wt[wt.length - 1]? = some o) (ho : o ∈ fd) : Seek m s fd wt.dropLast :=
  ⟨h.nd, h.rf, fun x hx => h.rw x (mem_dl hx), fun x hx => (h.c0 x hx).elim .inl fun q => (mem_last e q).elim .inr fun z => .inl (by rw [z]; exact ho),
    fun x hx y hy => (h.c1 x hx y hy).elim .inl fun q => (mem_last e q).elim .inr fun z => .inl (by rw [z]; exact ho), by have := h.ln; rw [List.length_dropLast]; omega⟩
theorem Seek.step {m : LM} {s : Str} {fd wt : List Str} {o : Str} (h : Seek m s fd wt) (e : wt[wt.length - 1]? = some o) (ho : o ∉ fd) : Seek m s (fd ++ [o]) (wt.dropLast ++ lof m o) := by
  have hm : o ∈ wt := List.mem_of_getElem? e
  have ro := h.rw o hm
  refine ⟨?_, fun x hx => ?_, fun x hx => ?_, fun x hx => ?_, fun x hx y hy => ?_, ?_⟩
  · rw [List.nodup_append]
    exact ⟨h.nd, by simp, fun a ha b hb z => ho (by rw [List.mem_singleton.mp hb] at z; rw [← z]; exact ha)⟩
  · rcases List.mem_append.mp hx with q | q
    · exact h.rf x q
    · rw [List.mem_singleton.mp q]; exact ro
  · rcases List.mem_append.mp hx with q | q
    · exact h.rw x (mem_dl q)
    · exact .more ro q
  · rcases h.c0 x hx with q | q
    · exact .inl (List.mem_append_left _ q)
    · rcases mem_last e q with z | z
      · exact .inr (List.mem_append_left _ z)
      · exact .inl (List.mem_append_right _ (by rw [z]; exact List.mem_singleton.mpr rfl))
  · rcases List.mem_append.mp hx with q | q
    · rcases h.c1 x q y hy with r | r
      · exact .inl (List.mem_append_left _ r)
      · rcases mem_last e r with z | z
        · exact .inr (List.mem_append_left _ z)
        · exact .inl (List.mem_append_right _ (by rw [z]; exact List.mem_singleton.mpr rfl))
    · rw [List.mem_singleton.mp q] at hy
      exact .inr (List.mem_append_right _ hy)
  · have h1 := h.ln
    have h2 := lof_len m o
    have h3 := List.length_pos_of_mem hm
    rw [List.length_append, List.length_dropLast, List.length_append, List.length_singleton, Nat.add_mul (fd.length + 1) 1]
    omega
theorem Seek.done {m : LM} {s : Str} {fd : List Str} (h : Seek m s fd []) (x : Str) : x ∈ fd ↔ Rch (lof m) s x :=
  ⟨h.rf x, fun r => r.closed (S := fun x => x ∈ fd) (fun y hy => (h.c0 y hy).resolve_right (by simp)) (fun y hy z hz => (h.c1 y hy z hz).resolve_right (by simp))⟩
/-- what a while of that search is measured by -/
def seekM (m : LM) (fd wt : List Str) : Nat := (tot m - fd.length) * (tot m + 1) + wt.length
theorem seekM_skip {m : LM} {fd wt : List Str} {o : Str} (e : wt[wt.length - 1]? = some o) : seekM m fd wt.dropLast < seekM m fd wt := by
  have := List.length_pos_of_mem (List.mem_of_getElem? e)
  unfold seekM
  rw [List.length_dropLast]
  omega
theorem seekM_step {m : LM} {s : Str} {fd wt : List Str} {o : Str} (h : Seek m s fd wt) (e : wt[wt.length - 1]? = some o) (ho : o ∉ fd) : seekM m (fd ++ [o]) (wt.dropLast ++ lof m o) < seekM m fd wt := by
  have h1 := (h.step e ho).fl
  have h2 := lof_len m o
  have h3 := List.length_pos_of_mem (List.mem_of_getElem? e)
  unfold seekM
  rw [List.length_append, List.length_singleton] at h1 ⊢
  rw [List.length_append, List.length_dropLast]
  have e1 : tot m - fd.length = (tot m - (fd.length + 1)) + 1 := by omega
  rw [e1, Nat.add_mul, Nat.one_mul]
  omega
/-- the dict stands there, its lists too -/
structure LAt (H : Hp) (D : Addr) (m : LM) : Prop where
  d : H D = some (.dK (kvL m))
  l : ∀ p ∈ m, H p.2.1 = some (.lst (p.2.2.map V.str))
theorem LAt.mono {H H' : Hp} {D : Addr} {m : LM} (h : LAt H D m) (s : Same H H') : LAt H' D m := ⟨s _ _ h.d, fun p hp => s _ _ (h.l p hp)⟩
/-- the dict is to be read there, locked or not -/
structure LRd (H : Hp) (D : Addr) (m : LM) : Prop where
  d : Rd H D (.dK (kvL m))
  l : ∀ p ∈ m, H p.2.1 = some (.lst (p.2.2.map V.str))
theorem LAt.rd {H : Hp} {D : Addr} {m : LM} (h : LAt H D m) : LRd H D m := ⟨.inl h.d, h.l⟩
theorem LRd.mono {H H' : Hp} {D : Addr} {m : LM} (h : LRd H D m) (s : Same H H') : LRd H' D m := ⟨h.d.elim (fun q => .inl (s _ _ q)) fun ⟨o, q⟩ => .inr ⟨o, s _ _ q⟩, fun p hp => s _ _ (h.l p hp)⟩
end Aw

namespace Aw
open PySem L2
/-! ### texts in order -/
open PySem.Spec in
theorem lt_irr : ∀ a : List Nat, ltCps a a = false
  | [] => rfl
  | x :: r => by unfold ltCps; simp [lt_irr r]
open PySem.Spec in
theorem lt_anti : ∀ a b : List Nat, ltCps a b = false → ltCps b a = false → a = b
  | [], [], _, _ => rfl
  | [], _ :: _, h, _ => by unfold ltCps at h; cases h
  | _ :: _, [], _, h => by unfold ltCps at h; cases h
  | x :: r, y :: t, h1, h2 => by
    unfold ltCps at h1 h2
    rcases Nat.lt_trichotomy x y with c | c | c
    · simp [c] at h1
    · subst c
      simp at h1 h2
      rw [lt_anti r t h1 h2]
    · simp [c] at h2
open PySem.Spec in
theorem le_trans' : ∀ a b c : List Nat, ltCps b a = false → ltCps c b = false → ltCps c a = false
  | a, b, [], h1, h2 => by
    cases b with
    | nil => cases a with
      | nil => rfl
      | cons => exact h1
    | cons => unfold ltCps at h2; cases h2
  | [], b, z :: t, h1, h2 => by unfold ltCps; rfl
  | x :: r, [], z :: t, h1, h2 => by unfold ltCps at h1; cases h1
  | x :: r, y :: s, z :: t, h1, h2 => by
    unfold ltCps at h1 h2 ⊢
    simp only [Bool.or_eq_false_iff, decide_eq_false_iff_not, Bool.and_eq_false_iff] at h1 h2 ⊢
    refine ⟨by omega, ?_⟩
    by_cases c : z = x
    · right
      have e1 : y = x := by omega
      have e2 : z = y := by omega
      rcases h1.2 with q | q
      · simp [e1] at q
      · rcases h2.2 with q' | q'
        · simp [e2] at q'
        · exact le_trans' r s t q q'
    · left; simpa using c
open PySem.Spec in
def sle (a b : Str) : Prop := ltCps b.cps.toList a.cps.toList = false
theorem sle_refl (a : Str) : sle a a := lt_irr _
theorem sle_trans {a b c : Str} (h1 : sle a b) (h2 : sle b c) : sle a c := le_trans' _ _ _ h1 h2
theorem str_ext {a b : Str} (h : a.cps.toList = b.cps.toList) : a = b := by
  cases a with | mk x => cases b with | mk y =>
  have : x = y := Array.toList_inj.mp h
  rw [this]
theorem sle_anti {a b : Str} (h1 : sle a b) (h2 : sle b a) : a = b := str_ext (lt_anti _ _ h2 h1)
theorem rising_pair : ∀ (r : List Str) (p : Str), PyProof.Rows.risingS p r = true → (p :: r).Pairwise sle
  | [], p, _ => List.pairwise_singleton _ _
  | x :: r, p, h => by
    unfold PyProof.Rows.risingS at h
    rw [Bool.and_eq_true] at h
    have h1 : sle p x := by simpa [sle] using h.1
    have ih := rising_pair r x h.2
    rw [List.pairwise_cons]
    refine ⟨fun y hy => ?_, ih⟩
    rcases List.mem_cons.mp hy with q | q
    · rw [q]; exact h1
    · exact sle_trans h1 ((List.pairwise_cons.mp ih).1 y q)
theorem sorted_pair {l : List Str} (h : PyProof.Rows.sortedS l = true) : l.Pairwise sle := by
  cases l with
  | nil => exact .nil
  | cons x r => exact rising_pair r x h
/-- two lists in order that are made of the same are the same -/
theorem srt_one {a b : List Str} (ha : a.Pairwise sle) (hb : b.Pairwise sle) (p : a.Perm b) : a = b := List.Perm.eq_of_pairwise (fun _ _ _ _ => sle_anti) ha hb p
theorem srt_same {a b : List Str} (ha : a.Pairwise sle) (hb : b.Pairwise sle) (na : a.Nodup) (nb : b.Nodup) (h : ∀ x, x ∈ a ↔ x ∈ b) : a = b := srt_one ha hb ((List.perm_ext_iff_of_nodup na nb).mpr h)
theorem addN_nodup {acc : List Str} (h : acc.Nodup) (s : Str) : (addN acc s).Nodup := by
  unfold addN
  split
  · exact h
  · next c =>
    rw [List.nodup_append]
    exact ⟨h, by simp, fun a ha b hb z => c (by rw [List.mem_singleton.mp hb] at z; rw [← z]; exact ha)⟩
theorem once_nodup (l : List Str) : (once l).Nodup := by
  have g : ∀ (l acc : List Str), acc.Nodup → (l.foldl addN acc).Nodup := by
    intro l
    induction l with
    | nil => intro acc h; exact h
    | cons s r ih => intro acc h; exact ih _ (addN_nodup h s)
  exact g l [] .nil
theorem mem_addN {acc : List Str} {s x : Str} : x ∈ addN acc s ↔ x ∈ acc ∨ x = s := by
  unfold addN
  split
  · next c => exact ⟨.inl, fun h => h.elim id fun e => by rw [e]; exact c⟩
  · rw [List.mem_append, List.mem_singleton]
theorem mem_once {l : List Str} {x : Str} : x ∈ once l ↔ x ∈ l := by
  have g : ∀ (l acc : List Str), x ∈ l.foldl addN acc ↔ x ∈ acc ∨ x ∈ l := by
    intro l
    induction l with
    | nil => intro acc; simp
    | cons s r ih =>
      intro acc
      rw [List.foldl_cons, ih, mem_addN, List.mem_cons]
      exact ⟨fun h => h.elim (fun q => q.elim .inl fun e => .inr (.inl e)) fun q => .inr (.inr q), fun h => h.elim (fun q => .inl (.inl q)) fun q => q.elim (fun e => .inl (.inr e)) .inr⟩
  have := g l []
  simpa [once] using this
theorem once_pair {l : List Str} (h : l.Pairwise sle) : (once l).Pairwise sle := by
  have g : ∀ (l acc : List Str), acc.Pairwise sle → l.Pairwise sle → (∀ a ∈ acc, ∀ b ∈ l, sle a b) → (l.foldl addN acc).Pairwise sle := by
    intro l
    induction l with
    | nil => intro acc h _ _; exact h
    | cons s r ih =>
      intro acc ha hl hb
      rw [List.pairwise_cons] at hl
      refine ih _ ?_ hl.2 fun a q b hb' => ?_
      · unfold addN
        split
        · exact ha
        · rw [List.pairwise_append]
          exact ⟨ha, List.pairwise_singleton _ _, fun a q b hb' => by rw [List.mem_singleton.mp hb']; exact hb a q s List.mem_cons_self⟩
      · rcases mem_addN.mp q with z | z
        · exact hb a z b (List.mem_cons_of_mem _ hb')
        · rw [z]; exact hl.1 b hb'
  exact g l [] .nil h fun a q => by cases q
end Aw

namespace Aw
open PySem L2
/-! ### dicts of lists of names, filled -/
def putM (m : LM) (s : Str) (q : Addr × List Str) : LM :=
  if (m.any fun p => decide (p.1 = s)) = true then m.map (fun p => if p.1 = s then (p.1, q) else p) else m ++ [(s, q)]
theorem any_kvL (m : LM) (s : Str) : ((kvL m).any fun kv => decide (kv.1 = (Sum.inr s : Key))) = m.any fun p => decide (p.1 = s) := by
  unfold kvL
  rw [List.any_map]
  congr 1
  funext p
  show decide ((Sum.inr p.1 : Key) = Sum.inr s) = decide (p.1 = s)
  by_cases e : p.1 = s
  · rw [decide_eq_true e, decide_eq_true (by rw [e])]
  · rw [decide_eq_false e, decide_eq_false (fun z => e (Sum.inr.inj z))]
theorem kvL_put (m : LM) (s : Str) (q : Addr × List Str) : putK (kvL m) (Sum.inr s) (.ref q.1) = kvL (putM m s q) := by
  unfold putK putM
  rw [any_kvL]
  by_cases c : (m.any fun p => decide (p.1 = s)) = true
  · rw [if_pos c, if_pos c]
    unfold kvL
    rw [List.map_map, List.map_map]
    refine List.map_congr_left fun p _ => ?_
    show (if (Sum.inr p.1 : Key) = Sum.inr s then ((Sum.inr p.1 : Key), V.ref q.1) else (Sum.inr p.1, V.ref p.2.1)) = (Sum.inr (if p.1 = s then (p.1, q) else p).1, V.ref (if p.1 = s then (p.1, q) else p).2.1)
    by_cases e : p.1 = s
    · rw [if_pos e, if_pos (by rw [e])]
    · rw [if_neg e, if_neg (fun z => e (Sum.inr.inj z))]
  · rw [if_neg c, if_neg c]
    unfold kvL
    rw [List.map_append]
    rfl
def keysM (m : LM) : List Str := m.map (·.1)
theorem any_keys {m : LM} {s : Str} : (m.any fun p => decide (p.1 = s)) = true ↔ s ∈ keysM m := by
  rw [List.any_eq_true]
  unfold keysM
  rw [List.mem_map]
  exact ⟨fun ⟨p, h, e⟩ => ⟨p, h, of_decide_eq_true e⟩, fun ⟨p, h, e⟩ => ⟨p, h, decide_eq_true e⟩⟩
theorem keysM_put (m : LM) (s : Str) (q : Addr × List Str) : keysM (putM m s q) = if s ∈ keysM m then keysM m else keysM m ++ [s] := by
  unfold putM
  by_cases c : (m.any fun p => decide (p.1 = s)) = true
  · rw [if_pos c, if_pos (any_keys.mp c)]
    unfold keysM
    rw [List.map_map]
    refine List.map_congr_left fun p _ => ?_
    show (if p.1 = s then (p.1, q) else p).1 = p.1
    split <;> rfl
  · rw [if_neg c, if_neg (fun h => c (any_keys.mpr h))]
    unfold keysM
    rw [List.map_append]
    rfl
theorem nodup_put {m : LM} (h : (keysM m).Nodup) (s : Str) (q : Addr × List Str) : (keysM (putM m s q)).Nodup := by
  rw [keysM_put]
  split
  · exact h
  · next c =>
    rw [List.nodup_append]
    exact ⟨h, by simp, fun a ha b hb z => c (by rw [List.mem_singleton.mp hb] at z; rw [← z]; exact ha)⟩
theorem lkp_cons {p : Str × Addr × List Str} {r : LM} {s : Str} : lkp (p :: r) s = if p.1 = s then some p.2 else lkp r s := rfl
theorem lof_pos {p : Str × Addr × List Str} {r : LM} {s : Str} (e : p.1 = s) : lof (p :: r) s = p.2.2 := by unfold lof; rw [lkp_cons, if_pos e]
theorem lof_neg {p : Str × Addr × List Str} {r : LM} {s : Str} (e : ¬ p.1 = s) : lof (p :: r) s = lof r s := by unfold lof; rw [lkp_cons, if_neg e]
theorem lkp_none {m : LM} {s : Str} : lkp m s = none ↔ s ∉ keysM m := by
  induction m with
  | nil => exact ⟨fun _ h => (by cases h), fun _ => rfl⟩
  | cons p r ih =>
    unfold lkp
    show _ ↔ s ∉ p.1 :: keysM r
    by_cases e : p.1 = s
    · rw [if_pos e]
      exact ⟨fun h => (by cases h), fun h => absurd (show s ∈ p.1 :: keysM r by rw [e]; exact List.mem_cons_self) h⟩
    · rw [if_neg e, ih, List.mem_cons]
      exact ⟨fun h z => z.elim (fun q => e q.symm) h, fun h z => h (.inr z)⟩
theorem mem_lkp {m : LM} (nd : (keysM m).Nodup) {p : Str × Addr × List Str} (h : p ∈ m) : lkp m p.1 = some p.2 := by
  induction m with
  | nil => cases h
  | cons q r ih =>
    have nd' : (q.1 :: keysM r).Nodup := nd
    rw [List.nodup_cons] at nd'
    unfold lkp
    rcases List.mem_cons.mp h with e | e
    · rw [e, if_pos rfl]
    · rw [if_neg (fun z => nd'.1 (by rw [z]; exact List.mem_map_of_mem e))]
      exact ih nd'.2 e
theorem mem_put {m : LM} {s : Str} {q : Addr × List Str} {p : Str × Addr × List Str} (h : p ∈ putM m s q) : p ∈ m ∨ p = (s, q) := by
  unfold putM at h
  split at h
  · obtain ⟨r, hr, e⟩ := List.mem_map.mp h
    split at e
    · next c => rw [← e, c]; exact .inr rfl
    · rw [← e]; exact .inl hr
  · rcases List.mem_append.mp h with z | z
    · exact .inl z
    · exact .inr (List.mem_singleton.mp z)
theorem tot_put {m : LM} (nd : (keysM m).Nodup) (s x : Str) (p : Addr) : tot (putM m s (p, lof m s ++ [x])) = tot m + 1 := by
  unfold putM
  by_cases c : (m.any fun p => decide (p.1 = s)) = true
  · rw [if_pos c]
    have hs := any_keys.mp c
    clear c
    induction m with
    | nil => cases hs
    | cons q r ih =>
      have nd' : (q.1 :: keysM r).Nodup := nd
      rw [List.nodup_cons] at nd'
      by_cases e : q.1 = s
      · have hr : r.map (fun p_1 => if p_1.1 = s then (p_1.1, p, lof (q :: r) s ++ [x]) else p_1) = r := by
          refine (List.map_congr_left fun z hz => ?_).trans (List.map_id r)
          rw [if_neg (fun w => nd'.1 (by rw [e, ← w]; exact List.mem_map_of_mem hz))]
          rfl
        have el : lof (q :: r) s = q.2.2 := lof_pos e
        rw [List.map_cons, hr, if_pos e, el]
        unfold tot
        rw [List.map_cons, List.map_cons, List.sum_cons, List.sum_cons]
        show (q.2.2 ++ [x]).length + _ = _
        rw [List.length_append, List.length_singleton]
        omega
      · have el : lof (q :: r) s = lof r s := lof_neg e
        have ih' := ih nd'.2 ((List.mem_cons.mp hs).resolve_left fun z => e z.symm)
        rw [el, List.map_cons, if_neg e]
        unfold tot at ih' ⊢
        rw [List.map_cons, List.map_cons, List.sum_cons, List.sum_cons, ih']
        omega
  · rw [if_neg c]
    have el : lof m s = [] := by unfold lof; rw [lkp_none.mpr fun h => c (any_keys.mpr h)]
    rw [el]
    unfold tot
    rw [List.map_append, List.sum_append]
    rfl
/-- the other names' lists -/
theorem rest_of (m : LM) (s : Str) : ∃ r : List Str, (lof m s).length + r.length = tot m ∧ ∀ x ∈ uni m, x ∈ lof m s ∨ x ∈ r := by
  induction m with
  | nil => exact ⟨[], rfl, fun x h => by cases h⟩
  | cons p r ih =>
    by_cases e : p.1 = s
    · have el : lof (p :: r) s = p.2.2 := lof_pos e
      refine ⟨uni r, ?_, fun x h => ?_⟩
      · rw [el, uni_len]
        unfold tot
        rw [List.map_cons, List.sum_cons]
      · rw [el]
        unfold uni at h ⊢
        rw [List.map_cons, List.flatten_cons] at h
        exact List.mem_append.mp h
    · obtain ⟨t, h1, h2⟩ := ih
      have el : lof (p :: r) s = lof r s := lof_neg e
      refine ⟨p.2.2 ++ t, ?_, fun x h => ?_⟩
      · rw [el]
        unfold tot at h1 ⊢
        rw [List.map_cons, List.sum_cons, List.length_append]
        omega
      · rw [el]
        unfold uni at h
        rw [List.map_cons, List.flatten_cons] at h
        rcases List.mem_append.mp h with q | q
        · exact .inr (List.mem_append_left _ q)
        · exact (h2 x q).imp id fun z => List.mem_append_right _ z
/-! ### the law's own search: a list that grows while it is walked -/
structure Bfs (m : LM) (s : Str) (due : List Str) (k : Nat) : Prop where
  le : k ≤ due.length
  new : ∃ nw, due = lof m s ++ nw ∧ nw.Nodup ∧ ∀ x ∈ nw, x ∉ lof m s
  r : ∀ x ∈ due, Rch (lof m) s x
  cl : ∀ i x, i < k → due[i]? = some x → ∀ y ∈ lof m x, y ∈ due
theorem Bfs.start (m : LM) (s : Str) : Bfs m s (lof m s) 0 := ⟨Nat.zero_le _, ⟨[], (List.append_nil _).symm, .nil, fun x h => by cases h⟩, fun x h => .one h, fun i x h => by omega⟩
theorem Bfs.len {m : LM} {s : Str} {due : List Str} {k : Nat} (h : Bfs m s due k) : due.length ≤ tot m := by
  obtain ⟨nw, e, nd, hn⟩ := h.new
  obtain ⟨r, h1, h2⟩ := rest_of m s
  have : nw.length ≤ r.length := nodup_sub nd fun x hx => (h2 x ((h.r x (by rw [e]; exact List.mem_append_right _ hx)).uni)).resolve_left (hn x hx)
  rw [e, List.length_append]
  omega
/-- a part of the list of the name at k was walked -/
structure Bfs1 (m : LM) (s : Str) (due0 due : List Str) (k : Nat) (l : List Str) (i : Nat) : Prop where
  b : Bfs m s due k
  pre : ∃ z, due = due0 ++ z
  got : ∀ y ∈ l.take i, y ∈ due
theorem Bfs1.start {m : LM} {s : Str} {due : List Str} {k : Nat} (h : Bfs m s due k) (l : List Str) : Bfs1 m s due due k l 0 := ⟨h, ⟨[], (List.append_nil _).symm⟩, fun y hy => by cases hy⟩
theorem Bfs1.step {m : LM} {s n : Str} {due0 due : List Str} {k i : Nat} {y : Str} (h : Bfs1 m s due0 due k (lof m n) i) (hn : due0[k]? = some n) (hy : (lof m n)[i]? = some y) : Bfs1 m s due0 (addN due y) k (lof m n) (i + 1) := by
  obtain ⟨z, ez⟩ := h.pre
  have hkn : due[k]? = some n := by
    rw [ez, List.getElem?_append_left (List.getElem?_eq_some_iff.mp hn).1]
    exact hn
  have rn : Rch (lof m) s n := h.b.r n (List.mem_of_getElem? hkn)
  have ry : Rch (lof m) s y := .more rn (List.mem_of_getElem? hy)
  have sub : ∀ x ∈ due, x ∈ addN due y := fun x hx => mem_addN.mpr (.inl hx)
  have pre : ∃ t, addN due y = due ++ t := by
    unfold addN
    split
    · exact ⟨[], (List.append_nil _).symm⟩
    · exact ⟨[y], rfl⟩
  obtain ⟨t, et⟩ := pre
  refine ⟨⟨?_, ?_, fun x hx => ?_, fun j x hj hx w hw => ?_⟩, ⟨z ++ t, by rw [et, ez, List.append_assoc]⟩, fun w hw => ?_⟩
  · rw [et, List.length_append]; exact Nat.le_trans h.b.le (Nat.le_add_right _ _)
  · obtain ⟨nw, e, nd, hno⟩ := h.b.new
    unfold addN
    split
    · exact ⟨nw, e, nd, hno⟩
    · next c =>
      refine ⟨nw ++ [y], by rw [e, List.append_assoc], ?_, fun x hx => ?_⟩
      · rw [List.nodup_append]
        exact ⟨nd, by simp, fun a ha b hb w => c (by rw [e, ← List.mem_singleton.mp hb, ← w]; exact List.mem_append_right _ ha)⟩
      · rcases List.mem_append.mp hx with q | q
        · exact hno x q
        · rw [List.mem_singleton.mp q]
          exact fun w => c (by rw [e]; exact List.mem_append_left _ w)
  · rcases mem_addN.mp hx with q | q
    · exact h.b.r x q
    · rw [q]; exact ry
  · rw [et, List.getElem?_append_left (by have := h.b.le; omega)] at hx
    exact sub w (h.b.cl j x hj hx w hw)
  · rw [take_more hy] at hw
    rcases List.mem_append.mp hw with q | q
    · exact sub w (h.got w q)
    · exact mem_addN.mpr (.inr (List.mem_singleton.mp q))
theorem Bfs1.done {m : LM} {s n : Str} {due0 due : List Str} {k i : Nat} (h : Bfs1 m s due0 due k (lof m n) i) (hn : due0[k]? = some n) (hi : (lof m n).length ≤ i) : Bfs m s due (k + 1) := by
  obtain ⟨z, ez⟩ := h.pre
  have hlt := (List.getElem?_eq_some_iff.mp hn).1
  have hkn : due[k]? = some n := by
    rw [ez, List.getElem?_append_left hlt]
    exact hn
  refine ⟨by rw [ez, List.length_append]; omega, h.b.new, h.b.r, fun j x hj hx => ?_⟩
  by_cases c : j = k
  · subst c
    rw [hkn] at hx
    cases hx
    intro y hy
    exact h.got y (by rw [List.take_of_length_le hi]; exact hy)
  · exact h.b.cl j x (by omega) hx
theorem Bfs.done {m : LM} {s : Str} {due : List Str} {k : Nat} (h : Bfs m s due k) (e : ¬ k < due.length) (x : Str) : x ∈ due ↔ Rch (lof m) s x := by
  refine ⟨h.r x, fun r => r.closed (S := fun x => x ∈ due) (fun y hy => ?_) fun y hy z hz => ?_⟩
  · obtain ⟨nw, e, _⟩ := h.new
    rw [e]; exact List.mem_append_left _ hy
  · obtain ⟨i, hi, e2⟩ := List.mem_iff_getElem.mp hy
    exact h.cl i y (by have := h.le; omega) (by rw [List.getElem?_eq_getElem hi, e2]) z hz
theorem putM_new {m : LM} {s : Str} (h : s ∉ keysM m) (q : Addr × List Str) : putM m s q = m ++ [(s, q)] := by
  unfold putM
  rw [if_neg (fun c => h (any_keys.mp c))]
theorem not_tk {m : LM} (nd : (keysM m).Nodup) {i : Nat} {p : Str × Addr × List Str} (hi : m[i]? = some p) : p.1 ∉ keysM (m.take i) := fun h => by
  have e1 : keysM (m.take i) = (keysM m).take i := List.map_take
  rw [e1] at h
  have hi' : (keysM m)[i]? = some p.1 := by unfold keysM; rw [List.getElem?_map, hi]; rfl
  obtain ⟨j, hj, e⟩ := List.mem_take_iff_getElem.mp h
  have hlt := (List.getElem?_eq_some_iff.mp hi').1
  have e2 := (List.getElem?_eq_some_iff.mp hi').2
  have := (List.getElem_inj (h₀ := by omega) (h₁ := hlt) nd).mp (e.trans e2.symm)
  omega
/-! ### a dict of lists and its copy are equal -/
theorem eq_strs {K : PySem.W.Frag} {H : Hp} : ∀ l : List Str, Paired (EqV K H 1) (l.map V.str) (l.map V.str)
  | [] => .nil
  | s :: r => .cons (.inl ⟨rfl, rfl⟩) (eq_strs r)
/-- the same names with the same lists, elsewhere -/
def SameM (m m' : LM) : Prop := m.map (fun p => (p.1, p.2.2)) = m'.map (fun p => (p.1, p.2.2))
theorem SameM.lof {m m' : LM} (h : SameM m m') (s : Str) : lof m s = lof m' s := by
  unfold SameM at h
  induction m generalizing m' with
  | nil =>
    cases m' with
    | nil => rfl
    | cons => simp at h
  | cons p r ih =>
    cases m' with
    | nil => simp at h
    | cons p' r' =>
      rw [List.map_cons, List.map_cons, List.cons.injEq] at h
      have e1 : p.1 = p'.1 := (Prod.mk.inj h.1).1
      have e2 : p.2.2 = p'.2.2 := (Prod.mk.inj h.1).2
      have i2 := ih h.2
      by_cases c : p'.1 = s
      · rw [lof_pos (e1.trans c), lof_pos c, e2]
      · rw [lof_neg (fun z => c (e1.symm.trans z)), lof_neg c, i2]
theorem SameM.tot {m m' : LM} (h : SameM m m') : tot m = tot m' := by
  have : (m.map (fun p => (p.1, p.2.2))).map (fun q => q.2.length) = (m'.map (fun p => (p.1, p.2.2))).map (fun q => q.2.length) := by rw [h]
  rw [List.map_map, List.map_map] at this
  unfold Aw.tot
  exact congrArg List.sum this
theorem SameM.len {m m' : LM} (h : SameM m m') : m.length = m'.length := by
  have := congrArg List.length h
  simpa using this
theorem SameM.keys {m m' : LM} (h : SameM m m') : keysM m = keysM m' := by
  have : (m.map (fun p => (p.1, p.2.2))).map (·.1) = (m'.map (fun p => (p.1, p.2.2))).map (·.1) := by rw [h]
  rw [List.map_map, List.map_map] at this
  exact this
theorem eq_dicts {K : PySem.W.Frag} {H : Hp} {D D' : Addr} {m m' : LM} (h : LAt H D m) (h' : LAt H D' m') (e : SameM m m') (nd : (keysM m).Nodup) : EqR K H (EqV K H 2) (.ref D) (.ref D') := by
  refine .inr ⟨D, D', kvL m, kvL m', rfl, rfl, h.d, h'.d, by unfold kvL; rw [List.length_map, List.length_map, e.len], fun p hp => ?_⟩
  obtain ⟨q, hq, eq⟩ := List.mem_map.mp hp
  subst eq
  have l1 := mem_lkp nd hq
  have nn : lkp m' q.1 ≠ none := fun z => (lkp_none.mp z) (by rw [← e.keys]; exact List.mem_map_of_mem hq)
  obtain ⟨q', hq'⟩ := Option.ne_none_iff_exists'.mp nn
  have l2 := lkp_mem hq'
  have ll : q.2.2 = q'.2 := by
    have := e.lof q.1
    unfold lof at this
    rw [l1, hq'] at this
    exact this
  refine ⟨.ref q'.1, by show valV (kvL m') (Sum.inr q.1) = _; rw [kvL_val, hq']; rfl, ?_⟩
  refine .inr (.inr (.inl ⟨q.2.1, q'.1, _, _, rfl, rfl, SqL.of (h.l _ hq), SqL.of (h'.l _ l2), ?_⟩))
  rw [ll]
  exact eq_strs _
end Aw

namespace Aw
open PySem L2
open Classical in
/-- in one knot -/
def Kno (f : Str → List Str) (a b : Str) : Prop := b = a ∨ (Rch f a b ∧ Rch f b a)
theorem Kno.refl (f : Str → List Str) (a : Str) : Kno f a a := .inl rfl
theorem Kno.symm {f : Str → List Str} {a b : Str} (h : Kno f a b) : Kno f b a := h.elim (fun e => .inl e.symm) fun h => .inr ⟨h.2, h.1⟩
theorem Kno.trans {f : Str → List Str} {a b c : Str} (h : Kno f a b) (k : Kno f b c) : Kno f a c := by
  rcases h with e | ⟨h1, h2⟩
  · rw [e] at k; exact k
  · rcases k with e | ⟨k1, k2⟩
    · rw [e]; exact .inr ⟨h1, h2⟩
    · exact .inr ⟨h1.trans k1, k2.trans h2⟩
open Classical in
noncomputable def fil (p : Str → Prop) (l : List Str) : List Str := l.filter fun o => decide (p o)
theorem fil_congr {p q : Str → Prop} {l : List Str} (h : ∀ o, p o ↔ q o) : fil p l = fil q l := by
  rw [show p = q from funext fun o => propext (h o)]
open Classical in
theorem fil_pos {p : Str → Prop} {l : List Str} {x : Str} (h : p x) : fil p (l ++ [x]) = fil p l ++ [x] := by
  unfold fil
  rw [List.filter_append]
  congr 1
  exact List.filter_cons_of_pos (decide_eq_true h)
open Classical in
theorem fil_neg {p : Str → Prop} {l : List Str} {x : Str} (h : ¬ p x) : fil p (l ++ [x]) = fil p l := by
  unfold fil
  rw [List.filter_append]
  have e : [x].filter (fun o => decide (p o)) = [] := List.filter_cons_of_neg (by rw [decide_eq_false h]; decide)
  rw [e]
  exact List.append_nil _
theorem fil_len (p : Str → Prop) (l : List Str) : (fil p l).length ≤ l.length := by unfold fil; exact List.length_filter_le _ _
noncomputable def knotM (f : Str → List Str) (ns : List Str) (n : Str) : List Str := fil (Kno f n) ns
open Classical in
theorem mem_knotM {f : Str → List Str} {ns : List Str} {n o : Str} : o ∈ knotM f ns n ↔ o ∈ ns ∧ Kno f n o := by
  unfold knotM fil
  exact ⟨fun h => ⟨(List.mem_filter.mp h).1, of_decide_eq_true (List.mem_filter.mp h).2⟩, fun h => List.mem_filter.mpr ⟨h.1, decide_eq_true h.2⟩⟩
theorem knotM_eq {f : Str → List Str} {ns : List Str} {a b : Str} (h : Kno f a b) : knotM f ns a = knotM f ns b := by
  unfold knotM
  exact fil_congr fun o => ⟨fun k => h.symm.trans k, fun k => h.trans k⟩
open Classical in
noncomputable def knStep (f : Str → List Str) (ns : List Str) (acc : List (List Str)) (n : Str) : List (List Str) := if ∃ k ∈ acc, n ∈ k then acc else acc ++ [knotM f ns n]
noncomputable def knotsM (f : Str → List Str) (ns : List Str) : List (List Str) := ns.foldl (knStep f ns) []
theorem foldl_take {α β : Type} (g : β → α → β) {l : List α} {i : Nat} {x : α} (h : l[i]? = some x) (b : β) : (l.take (i + 1)).foldl g b = g ((l.take i).foldl g b) x := by
  rw [take_more h, List.foldl_append]
  rfl
/-- all lists so far are knots of names -/
theorem knots_sub {f : Str → List Str} {ns : List Str} : ∀ (l : List Str) (acc : List (List Str)), (∀ k ∈ acc, ∃ n ∈ ns, k = knotM f ns n) → (∀ n ∈ l, n ∈ ns) → ∀ k ∈ l.foldl (knStep f ns) acc, ∃ n ∈ ns, k = knotM f ns n
  | [], acc, h, _ => h
  | n :: r, acc, h, hl => by
    rw [List.foldl_cons]
    refine knots_sub r _ (fun k hk => ?_) fun x hx => hl x (List.mem_cons_of_mem _ hx)
    unfold knStep at hk
    split at hk
    · exact h k hk
    · rcases List.mem_append.mp hk with q | q
      · exact h k q
      · exact ⟨n, hl n List.mem_cons_self, List.mem_singleton.mp q⟩
theorem knots_len {f : Str → List Str} {ns : List Str} : ∀ (l : List Str) (acc : List (List Str)), (l.foldl (knStep f ns) acc).length ≤ acc.length + l.length
  | [], acc => Nat.le_refl _
  | n :: r, acc => by
    have ih := knots_len (f := f) (ns := ns) r (knStep f ns acc n)
    have h1 : (knStep f ns acc n).length ≤ acc.length + 1 := by
      unfold knStep
      split
      · omega
      · rw [List.length_append, List.length_singleton]; omega
    rw [List.foldl_cons, List.length_cons]
    omega
/-- turned round -/
theorem Rch.turn {f g : Str → List Str} (h : ∀ a b, b ∈ f a → a ∈ g b) {a b : Str} (r : Rch f a b) : Rch g b a := by
  induction r with
  | one q => exact .one (h _ _ q)
  | more _ q ih => exact Rch.head (h _ _ q) ih
theorem Rch.imp {f g : Str → List Str} (h : ∀ a b, b ∈ f a → b ∈ g a) {a b : Str} (r : Rch f a b) : Rch g a b := by
  induction r with
  | one q => exact .one (h _ _ q)
  | more _ q ih => exact .more ih (h _ _ q)
/-! ### leanings as pairs -/
abbrev Eg := List (Str × Str)
def lwE (E : Eg) (s : Str) : List Str := (E.filter fun e => decide (e.1 = s)).map (·.2)
def lbE (E : Eg) (s : Str) : List Str := (E.filter fun e => decide (e.2 = s)).map (·.1)
theorem mem_lwE {E : Eg} {a b : Str} : b ∈ lwE E a ↔ (a, b) ∈ E := by
  unfold lwE
  rw [List.mem_map]
  constructor
  · rintro ⟨p, hp, rfl⟩
    obtain ⟨h1, h2⟩ := List.mem_filter.mp hp
    have e := of_decide_eq_true h2
    subst e
    exact h1
  · intro h
    exact ⟨_, List.mem_filter.mpr ⟨h, decide_eq_true rfl⟩, rfl⟩
theorem mem_lbE {E : Eg} {a b : Str} : a ∈ lbE E b ↔ (a, b) ∈ E := by
  unfold lbE
  rw [List.mem_map]
  constructor
  · rintro ⟨p, hp, rfl⟩
    obtain ⟨h1, h2⟩ := List.mem_filter.mp hp
    have e := of_decide_eq_true h2
    subst e
    exact h1
  · intro h
    exact ⟨_, List.mem_filter.mpr ⟨h, decide_eq_true rfl⟩, rfl⟩
theorem lwE_snoc (E : Eg) (a b s : Str) : lwE (E ++ [(a, b)]) s = if s = a then lwE E s ++ [b] else lwE E s := by
  unfold lwE
  rw [List.filter_append, List.map_append]
  by_cases c : s = a
  · rw [if_pos c, List.filter_cons_of_pos (by rw [c]; exact decide_eq_true rfl)]
    rfl
  · rw [if_neg c, List.filter_cons_of_neg (by intro z; exact c (of_decide_eq_true z).symm)]
    exact List.append_nil _
theorem lbE_snoc (E : Eg) (a b s : Str) : lbE (E ++ [(a, b)]) s = if s = b then lbE E s ++ [a] else lbE E s := by
  unfold lbE
  rw [List.filter_append, List.map_append]
  by_cases c : s = b
  · rw [if_pos c, List.filter_cons_of_pos (by rw [c]; exact decide_eq_true rfl)]
    rfl
  · rw [if_neg c, List.filter_cons_of_neg (by intro z; exact c (of_decide_eq_true z).symm)]
    exact List.append_nil _
theorem sum_filt {α : Type} (g : α → Str) : ∀ (ns : List Str), ns.Nodup → ∀ E : List α, (ns.map fun s => (E.filter fun e => decide (g e = s)).length).sum ≤ E.length
  | [], _, E => Nat.zero_le _
  | n :: r, nd, E => by
    rw [List.nodup_cons] at nd
    have ih := sum_filt g r nd.2 (E.filter fun e => !decide (g e = n))
    have e1 : (r.map fun s => (E.filter fun e => decide (g e = s)).length) = r.map fun s => ((E.filter fun e => !decide (g e = n)).filter fun e => decide (g e = s)).length := by
      refine List.map_congr_left fun s hs => ?_
      rw [List.filter_filter]
      congr 1
      refine List.filter_congr fun e _ => ?_
      by_cases c : g e = s
      · have : g e ≠ n := fun z => nd.1 (by rw [← z, c]; exact hs)
        simp [c, this]
        exact fun z => this (c.trans z)
      · simp [c]
    rw [List.map_cons, List.sum_cons, e1]
    have e2 : (E.filter fun e => decide (g e = n)).length + (E.filter fun e => !decide (g e = n)).length = E.length := by
      clear ih e1
      induction E with
      | nil => rfl
      | cons e t iht =>
        by_cases c : g e = n
        · rw [List.filter_cons_of_pos (by simp [c]), List.filter_cons_of_neg (by simp [c]), List.length_cons, List.length_cons]; omega
        · rw [List.filter_cons_of_neg (by simp [c]), List.filter_cons_of_pos (by simp [c]), List.length_cons, List.length_cons]; omega
    omega
/-! ### dicts of lists by functions -/
def fm (ns : List Str) (av : Str → Addr) (lv : Str → List Str) : LM := ns.map fun s => (s, av s, lv s)
theorem keys_fm (ns : List Str) (av : Str → Addr) (lv : Str → List Str) : keysM (fm ns av lv) = ns := by
  unfold keysM fm
  rw [List.map_map]
  exact List.map_id ns
theorem kvL_fm (ns : List Str) (av : Str → Addr) (lv : Str → List Str) : kvL (fm ns av lv) = ns.map fun s => ((Sum.inr s : Key), V.ref (av s)) := by
  unfold kvL fm
  rw [List.map_map]
  rfl
theorem lof_fm {ns : List Str} {av : Str → Addr} {lv : Str → List Str} {s : Str} (h : s ∈ ns) : lof (fm ns av lv) s = lv s := by
  induction ns with
  | nil => cases h
  | cons n r ih =>
    by_cases c : n = s
    · subst c; exact lof_pos rfl
    · exact (lof_neg (p := (n, av n, lv n)) (r := fm r av lv) c).trans (ih ((List.mem_cons.mp h).resolve_left fun z => c z.symm))
theorem lof_fm0 {ns : List Str} {av : Str → Addr} {lv : Str → List Str} {s : Str} (h : s ∉ ns) : lof (fm ns av lv) s = [] := by
  unfold lof
  rw [lkp_none.mpr (by rw [keys_fm]; exact h)]
theorem tot_fm (ns : List Str) (av : Str → Addr) (lv : Str → List Str) : tot (fm ns av lv) = (ns.map fun s => (lv s).length).sum := by
  unfold tot fm
  rw [List.map_map]
  rfl
theorem tot_w {ns : List Str} (nd : ns.Nodup) (av : Str → Addr) (E : Eg) : tot (fm ns av (lwE E)) ≤ E.length := by
  rw [tot_fm]
  refine Nat.le_trans (Nat.le_of_eq ?_) (sum_filt (·.1) ns nd E)
  congr 1
  exact List.map_congr_left fun s _ => List.length_map _
theorem tot_b {ns : List Str} (nd : ns.Nodup) (av : Str → Addr) (E : Eg) : tot (fm ns av (lbE E)) ≤ E.length := by
  rw [tot_fm]
  refine Nat.le_trans (Nat.le_of_eq ?_) (sum_filt (·.2) ns nd E)
  congr 1
  exact List.map_congr_left fun s _ => List.length_map _
/-- the sum of what the names lean on -/
def leanSum (m : LM) (l : List Str) : Nat := (l.map fun s => (lof m s).length).sum
/-- the pairs so far: names ahead of the i-th, and j of the i-th's -/
structure Edges (m : LM) (ns : List Str) (i j : Nat) (E : Eg) : Prop where
  ok : ∀ a b, (a, b) ∈ E → a ∈ ns ∧ b ∈ ns ∧ b ∈ lof m a
  all : ∀ a ∈ ns.take i, ∀ b ∈ lof m a, b ∈ ns → (a, b) ∈ E
  part : ∀ a, ns[i]? = some a → ∀ b ∈ (lof m a).take j, b ∈ ns → (a, b) ∈ E
  ln : E.length ≤ leanSum m (ns.take i) + j
theorem Edges.start (m : LM) (ns : List Str) : Edges m ns 0 0 [] := ⟨fun a b h => (by cases h), fun a h => (by cases h), fun a _ b h => (by rw [List.take_zero] at h; cases h), Nat.zero_le _⟩
theorem Edges.skip {m : LM} {ns : List Str} {i j : Nat} {E : Eg} (h : Edges m ns i j E) {a b : Str} (ha : ns[i]? = some a) (hb : (lof m a)[j]? = some b) (n : b ∉ ns) : Edges m ns i (j + 1) E :=
  ⟨h.ok, h.all, fun a' ha' x hx hn => by
    rw [ha] at ha'
    cases ha'
    rw [take_more hb] at hx
    rcases List.mem_append.mp hx with q | q
    · exact h.part a ha x q hn
    · rw [List.mem_singleton.mp q] at hn; exact absurd hn n, by have := h.ln; omega⟩
theorem Edges.step {m : LM} {ns : List Str} {i j : Nat} {E : Eg} (h : Edges m ns i j E) {a b : Str} (ha : ns[i]? = some a) (hb : (lof m a)[j]? = some b) (n : b ∈ ns) : Edges m ns i (j + 1) (E ++ [(a, b)]) := by
  refine ⟨fun x y hxy => ?_, fun x hx y hy hn => List.mem_append_left _ (h.all x hx y hy hn), fun a' ha' x hx hn => ?_, ?_⟩
  · rcases List.mem_append.mp hxy with q | q
    · exact h.ok x y q
    · cases List.mem_singleton.mp q
      exact ⟨List.mem_of_getElem? ha, n, List.mem_of_getElem? hb⟩
  · rw [ha] at ha'
    cases ha'
    rw [take_more hb] at hx
    rcases List.mem_append.mp hx with q | q
    · exact List.mem_append_left _ (h.part a ha x q hn)
    · rw [List.mem_singleton.mp q]; exact List.mem_append_right _ (List.mem_singleton.mpr rfl)
  · rw [List.length_append, List.length_singleton]
    have := h.ln
    omega
theorem Edges.next {m : LM} {ns : List Str} {i : Nat} {E : Eg} {a : Str} (h : Edges m ns i (lof m a).length E) (ha : ns[i]? = some a) : Edges m ns (i + 1) 0 E := by
  refine ⟨h.ok, fun x hx y hy hn => ?_, fun a' _ x hx => (by rw [List.take_zero] at hx; cases hx), ?_⟩
  · rw [take_more ha] at hx
    rcases List.mem_append.mp hx with q | q
    · exact h.all x q y hy hn
    · have e := List.mem_singleton.mp q
      rw [e] at hy ⊢
      exact h.part a ha y (by rw [List.take_length]; exact hy) hn
  · have := h.ln
    unfold leanSum at this ⊢
    rw [take_more ha, List.map_append, List.sum_append]
    simpa using this
theorem leanSum_take (m : LM) (l : List Str) (i : Nat) : leanSum m (l.take i) ≤ leanSum m l := by
  have e : leanSum m l = leanSum m (l.take i) + leanSum m (l.drop i) := by
    unfold leanSum
    rw [← List.sum_append, ← List.map_append, List.take_append_drop]
  omega
/-- what leans, of the names handed in -/
def inner (m : LM) (ns : List Str) (a : Str) : List Str := if a ∈ ns then (lof m a).filter fun b => decide (b ∈ ns) else []
theorem mem_inner {m : LM} {ns : List Str} {a b : Str} : b ∈ inner m ns a ↔ a ∈ ns ∧ b ∈ lof m a ∧ b ∈ ns := by
  unfold inner
  split
  · next h => rw [List.mem_filter, decide_eq_true_iff]; exact ⟨fun q => ⟨h, q⟩, fun q => q.2⟩
  · next h => exact ⟨fun q => (by cases q), fun q => absurd q.1 h⟩
theorem Edges.done {m : LM} {ns : List Str} {E : Eg} (h : Edges m ns ns.length 0 E) (a b : Str) : (a, b) ∈ E ↔ b ∈ inner m ns a := by
  rw [mem_inner]
  exact ⟨fun q => ⟨(h.ok a b q).1, (h.ok a b q).2.2, (h.ok a b q).2.1⟩, fun ⟨h1, h2, h3⟩ => h.all a (by rw [List.take_length]; exact h1) b h2 h3⟩
theorem rch_w {m : LM} {ns : List Str} {E : Eg} (h : Edges m ns ns.length 0 E) (av : Str → Addr) (a b : Str) : Rch (lof (fm ns av (lwE E))) a b ↔ Rch (inner m ns) a b := by
  constructor
  · refine Rch.imp fun x y hy => ?_
    by_cases c : x ∈ ns
    · rw [lof_fm c, mem_lwE] at hy; exact (h.done x y).mp hy
    · rw [lof_fm0 c] at hy; cases hy
  · refine Rch.imp fun x y hy => ?_
    rw [lof_fm (mem_inner.mp hy).1, mem_lwE]
    exact (h.done x y).mpr hy
theorem rch_b {m : LM} {ns : List Str} {E : Eg} (h : Edges m ns ns.length 0 E) (av : Str → Addr) (a b : Str) : Rch (lof (fm ns av (lbE E))) a b ↔ Rch (inner m ns) b a := by
  constructor
  · refine Rch.turn fun x y hy => ?_
    by_cases c : x ∈ ns
    · rw [lof_fm c, mem_lbE] at hy; exact (h.done y x).mp hy
    · rw [lof_fm0 c] at hy; cases hy
  · refine Rch.turn fun x y hy => ?_
    rw [lof_fm (mem_inner.mp hy).2.2, mem_lbE]
    exact (h.done x y).mpr hy
theorem kn_iff {m : LM} {ns : List Str} {E : Eg} (h : Edges m ns ns.length 0 E) (aw ab : Str → Addr) (n o : Str) : (o = n ∨ (Rch (lof (fm ns aw (lwE E))) n o ∧ Rch (lof (fm ns ab (lbE E))) n o)) ↔ Kno (inner m ns) n o := by
  rw [rch_w h, rch_b h]
  exact Iff.rfl
/-! ### what the text's own way finds: the same knots -/
open Classical in
theorem notIn_iff {f : Str → List Str} {ns : List Str} {acc : List (List Str)} (h : ∀ k ∈ acc, ∃ n ∈ ns, k = knotM f ns n) {n : Str} (hn : n ∈ ns) : (∃ k ∈ acc, n ∈ k) ↔ knotM f ns n ∈ acc := by
  constructor
  · rintro ⟨k, hk, hnk⟩
    obtain ⟨z, _, e⟩ := h k hk
    rw [e] at hnk
    rw [← knotM_eq (mem_knotM.mp hnk).2, ← e]
    exact hk
  · intro q
    exact ⟨_, q, mem_knotM.mpr ⟨hn, Kno.refl f n⟩⟩
theorem recv {ws : List Str} {rv : Str → V} {s : Str} (h : s ∈ ws) : valV (ws.map fun s => ((Sum.inr s : Key), rv s)) (Sum.inr s) = some (rv s) := by
  induction ws with
  | nil => cases h
  | cons a r ih =>
    by_cases e : a = s
    · subst e; exact valV_pos rfl
    · rw [List.map_cons, valV_neg (fun z => e (Sum.inr.inj z))]
      exact ih ((List.mem_cons.mp h).resolve_left (Ne.symm e))
theorem valn {g : Str → V} {l : List Str} {s : Str} (h : s ∉ l) : valV (l.map fun z => ((Sum.inr z : Key), g z)) (Sum.inr s) = none := by
  induction l with
  | nil => rfl
  | cons a r ih =>
    rw [List.map_cons, valV_neg (fun z => h (by rw [← Sum.inr.inj z]; exact List.mem_cons_self))]
    exact ih fun z => h (List.mem_cons_of_mem _ z)
theorem is_in {g : Str → V} {l : List Str} (s : Str) : (valV (l.map fun z => ((Sum.inr z : Key), g z)) (Sum.inr s)).isSome = decide (s ∈ l) := by
  by_cases h : s ∈ l
  · rw [recv h, decide_eq_true h]; rfl
  · rw [valn h, decide_eq_false h]; rfl
theorem not_tks {ws : List Str} (nd : ws.Nodup) {i : Nat} {s : Str} (hi : ws[i]? = some s) : s ∉ ws.take i := fun h => by
  obtain ⟨j, hj, e⟩ := List.mem_take_iff_getElem.mp h
  have hlt := (List.getElem?_eq_some_iff.mp hi).1
  have e2 := (List.getElem?_eq_some_iff.mp hi).2
  have := (List.getElem_inj (h₀ := by omega) (h₁ := hlt) nd).mp (e.trans e2.symm)
  omega
/-- dicts of new empty lists, then filled -/
structure Frsh (H : Hp) (ns : List Str) (av : Str → Addr) : Prop where
  free : ∀ s ∈ ns, H (av s) = none
  inj : ∀ s ∈ ns, ∀ t ∈ ns, av s = av t → s = t
structure EdgAt (H H' : Hp) (ns : List Str) (W B : Addr) (aw ab : Str → Addr) (E : Eg) : Prop where
  s : Same H H'
  w : H' W = some (.dK (ns.map fun s => ((Sum.inr s : Key), V.ref (aw s))))
  b : H' B = some (.dK (ns.map fun s => ((Sum.inr s : Key), V.ref (ab s))))
  lw : ∀ s ∈ ns, H' (aw s) = some (.lst ((lwE E s).map V.str))
  lb : ∀ s ∈ ns, H' (ab s) = some (.lst ((lbE E s).map V.str))
theorem EdgAt.mono {H H' H2 : Hp} {ns : List Str} {W B : Addr} {aw ab : Str → Addr} {E : Eg} (h : EdgAt H H' ns W B aw ab E) (s : Same H' H2) : EdgAt H H2 ns W B aw ab E := ⟨h.s.trans s, s _ _ h.w, s _ _ h.b, fun x hx => s _ _ (h.lw x hx), fun x hx => s _ _ (h.lb x hx)⟩
theorem EdgAt.step {H H' : Hp} {ns : List Str} {W B : Addr} {aw ab : Str → Addr} {E : Eg} (h : EdgAt H H' ns W B aw ab E) (fw : Frsh H ns aw) (fb : Frsh H ns ab) (dis : ∀ s ∈ ns, ∀ t ∈ ns, aw s ≠ ab t) {a b : Str} (ha : a ∈ ns) (hb : b ∈ ns) :
    EdgAt H (upd (upd H' (aw a) (.lst ((lwE E a).map V.str ++ [.str b]))) (ab b) (.lst ((lbE E b).map V.str ++ [.str a]))) ns W B aw ab (E ++ [(a, b)]) := by
  have lwa := h.lw a ha
  have lbb := h.lb b hb
  have nWa : W ≠ aw a := ne_of h.w lwa (by intro z; cases z)
  have nWb : W ≠ ab b := ne_of h.w lbb (by intro z; cases z)
  have nBa : B ≠ aw a := ne_of h.b lwa (by intro z; cases z)
  have nBb : B ≠ ab b := ne_of h.b lbb (by intro z; cases z)
  refine ⟨same_upd (same_upd h.s (fw.free a ha) _) (fb.free b hb) _, by rw [upd_ne nWb, upd_ne nWa]; exact h.w, by rw [upd_ne nBb, upd_ne nBa]; exact h.b, fun x hx => ?_, fun x hx => ?_⟩
  · rw [upd_ne (dis x hx b hb), lwE_snoc]
    by_cases c : x = a
    · subst c
      rw [if_pos rfl, upd_same, List.map_append]
      rfl
    · rw [if_neg c, upd_ne (fun z => c (fw.inj x hx a ha z))]
      exact h.lw x hx
  · rw [lbE_snoc]
    by_cases c : x = b
    · subst c
      rw [if_pos rfl, upd_same, List.map_append]
      rfl
    · rw [if_neg c, upd_ne (fun z => c (fb.inj x hx b hb z)), upd_ne (fun z => dis a ha x hx z.symm)]
      exact h.lb x hx
theorem EdgAt.lat {H H' : Hp} {ns : List Str} {W B : Addr} {aw ab : Str → Addr} {E : Eg} (h : EdgAt H H' ns W B aw ab E) : LAt H' W (fm ns aw (lwE E)) ∧ LAt H' B (fm ns ab (lbE E)) := by
  refine ⟨⟨by rw [kvL_fm]; exact h.w, fun p hp => ?_⟩, ⟨by rw [kvL_fm]; exact h.b, fun p hp => ?_⟩⟩
  · obtain ⟨s, hs, e⟩ := List.mem_map.mp hp
    rw [← e]; exact h.lw s hs
  · obtain ⟨s, hs, e⟩ := List.mem_map.mp hp
    rw [← e]; exact h.lb s hs
theorem frsh_step {H HB : Hp} {W e : Addr} {l : List Str} {z : Str} {aw : Str → Addr} (sA : Same H HB) (hW : H W = none) (eW : HB W = some (.dK (l.map fun s => ((Sum.inr s : Key), V.ref (aw s))))) (fr : Frsh H l aw) (el : ∀ s ∈ l, HB (aw s) = some (.lst []) ∧ aw s ≠ W) (nz : z ∉ l) (he : HB e = none) :
    Same H (upd (upd HB e (.lst [])) W (.dK (putK (l.map fun s => ((Sum.inr s : Key), V.ref (aw s))) (Sum.inr z) (.ref e)))) ∧ ∃ av : Str → Addr, (upd (upd HB e (.lst [])) W (.dK (putK (l.map fun s => ((Sum.inr s : Key), V.ref (aw s))) (Sum.inr z) (.ref e)))) W = some (.dK ((l ++ [z]).map fun s => ((Sum.inr s : Key), V.ref (av s)))) ∧
      Frsh H (l ++ [z]) av ∧ ∀ s ∈ l ++ [z], (upd (upd HB e (.lst [])) W (.dK (putK (l.map fun s => ((Sum.inr s : Key), V.ref (aw s))) (Sum.inr z) (.ref e)))) (av s) = some (.lst []) ∧ av s ≠ W := by
  have nWe : W ≠ e := ne_of_none eW he
  have nl : ∀ s ∈ l, s ≠ z := fun s hs c => nz (by rw [← c]; exact hs)
  have nae : ∀ s ∈ l, aw s ≠ e := fun s hs => ne_of_none (el s hs).1 he
  obtain ⟨av, hav⟩ : ∃ av : Str → Addr, ∀ s, av s = if s = z then e else aw s := ⟨_, fun _ => rfl⟩
  have ap : ∀ s ∈ l, av s = aw s := fun s hs => by rw [hav, if_neg (nl s hs)]
  have az : av z = e := by rw [hav, if_pos rfl]
  refine ⟨same_upd (sA.trans (same_new he _)) hW _, av, ?_, ⟨fun s hs => ?_, fun s hs t ht q => ?_⟩, fun s hs => ?_⟩
  · rw [upd_same, putK_new _ (valn nz), List.map_append]
    congr 2
    congr 1
    · refine List.map_congr_left fun s hs => ?_
      rw [ap s hs]
    · show [((Sum.inr z : Key), V.ref e)] = [((Sum.inr z : Key), V.ref (av z))]
      rw [az]
  · rcases List.mem_append.mp hs with c | c
    · rw [ap s c]; exact fr.free s c
    · rw [List.mem_singleton.mp c, az]; exact sA.free he
  · rcases List.mem_append.mp hs with c | c
    · rcases List.mem_append.mp ht with d | d
      · rw [ap s c, ap t d] at q
        exact fr.inj s c t d q
      · rw [ap s c, List.mem_singleton.mp d, az] at q
        exact absurd q (nae s c)
    · rcases List.mem_append.mp ht with d | d
      · rw [ap t d, List.mem_singleton.mp c, az] at q
        exact absurd q.symm (nae t d)
      · rw [List.mem_singleton.mp c, List.mem_singleton.mp d]
  · rcases List.mem_append.mp hs with c | c
    · rw [ap s c, upd_ne (el s c).2, upd_ne (nae s c)]
      exact el s c
    · rw [List.mem_singleton.mp c, az, upd_ne nWe.symm]
      exact ⟨upd_same, nWe.symm⟩
theorem leanSum_mem {m : LM} {l : List Str} {s : Str} (h : s ∈ l) : (lof m s).length ≤ leanSum m l := by
  induction l with
  | nil => cases h
  | cons a r ih =>
    unfold leanSum
    rw [List.map_cons, List.sum_cons]
    rcases List.mem_cons.mp h with e | e
    · rw [e]; omega
    · have := ih e; unfold leanSum at this; omega
theorem ind_sum (n : Str) (k : Nat) : ∀ {l : List Str}, l.Nodup → (l.map fun s => if n = s then k else 0).sum ≤ k
  | [], _ => Nat.zero_le _
  | a :: r, nd => by
    rw [List.nodup_cons] at nd
    rw [List.map_cons, List.sum_cons]
    by_cases c : n = a
    · have z : (r.map fun s => if n = s then k else 0).sum = 0 := by
        have e : (r.map fun s => if n = s then k else 0) = r.map fun _ => 0 := List.map_congr_left fun s hs => if_neg fun q => nd.1 (by rw [← c, q]; exact hs)
        rw [e]
        clear e nd c
        induction r with
        | nil => rfl
        | cons x t ih => rw [List.map_cons, List.sum_cons, ih]
      rw [if_pos c, z]; omega
    · rw [if_neg c]
      have := ind_sum n k nd.2
      omega
theorem leanSum_tot : ∀ (m : LM) {l : List Str}, l.Nodup → leanSum m l ≤ tot m
  | [], l, _ => by
    unfold leanSum
    have e : (l.map fun s => (lof [] s).length) = l.map fun _ => 0 := rfl
    rw [e]
    induction l with
    | nil => exact Nat.le_refl _
    | cons x t ih => rename_i h; rw [List.nodup_cons] at h; rw [List.map_cons, List.sum_cons]; have := ih h.2 rfl; omega
  | p :: r, l, nd => by
    have ih := leanSum_tot r nd
    have h1 := ind_sum p.1 p.2.2.length nd
    have h2 : leanSum (p :: r) l ≤ leanSum r l + (l.map fun s => if p.1 = s then p.2.2.length else 0).sum := by
      clear ih h1 nd
      unfold leanSum
      induction l with
      | nil => exact Nat.le_refl _
      | cons a t ih =>
        rw [List.map_cons, List.map_cons, List.map_cons, List.sum_cons, List.sum_cons, List.sum_cons]
        by_cases c : p.1 = a
        · rw [lof_pos c, if_pos c]; omega
        · rw [lof_neg c, if_neg c]; omega
    unfold tot at ih ⊢
    rw [List.map_cons, List.sum_cons]
    omega
end Aw

namespace Aw
open PySem L2
/-! ### the law's rows: a name and all that it leads to within the names handed in -/
def grow (ns row : List Str) (y : Str) : List Str := if y ∈ ns ∧ y ∉ row then row ++ [y] else row
structure Row (m : LM) (ns : List Str) (s : Str) (row : List Str) (k : Nat) : Prop where
  nd : row.Nodup
  le : k ≤ row.length
  hd : s ∈ row
  ok : ∀ x ∈ row, x ∈ ns ∧ (x = s ∨ Rch (inner m ns) s x)
  cl : ∀ i x, i < k → row[i]? = some x → ∀ y ∈ lof m x, y ∈ ns → y ∈ row
theorem Row.start (m : LM) {ns : List Str} {s : Str} (h : s ∈ ns) : Row m ns s [s] 0 :=
  ⟨by simp, Nat.zero_le _, List.mem_singleton.mpr rfl, fun x hx => by rw [List.mem_singleton.mp hx]; exact ⟨h, .inl rfl⟩, fun i x h => by omega⟩
theorem Row.len {m : LM} {ns : List Str} {s : Str} {row : List Str} {k : Nat} (h : Row m ns s row k) : row.length ≤ ns.length := nodup_sub h.nd fun x hx => (h.ok x hx).1
structure Row1 (m : LM) (ns : List Str) (s : Str) (row0 row : List Str) (k : Nat) (l : List Str) (i : Nat) : Prop where
  r : Row m ns s row k
  pre : ∃ z, row = row0 ++ z
  got : ∀ y ∈ l.take i, y ∈ ns → y ∈ row
theorem Row1.start {m : LM} {ns : List Str} {s : Str} {row : List Str} {k : Nat} (h : Row m ns s row k) (l : List Str) : Row1 m ns s row row k l 0 := ⟨h, ⟨[], (List.append_nil _).symm⟩, fun y hy => by cases hy⟩
theorem Row1.step {m : LM} {ns : List Str} {s n : Str} {row0 row : List Str} {k i : Nat} {y : Str} (h : Row1 m ns s row0 row k (lof m n) i) (hn : row0[k]? = some n) (hy : (lof m n)[i]? = some y) : Row1 m ns s row0 (grow ns row y) k (lof m n) (i + 1) := by
  obtain ⟨z, ez⟩ := h.pre
  have hkn : row[k]? = some n := by
    rw [ez, List.getElem?_append_left (List.getElem?_eq_some_iff.mp hn).1]
    exact hn
  obtain ⟨hnn, hrn⟩ := h.r.ok n (List.mem_of_getElem? hkn)
  have hym := List.mem_of_getElem? hy
  unfold grow
  by_cases c : y ∈ ns ∧ y ∉ row
  · rw [if_pos c]
    have ry : Rch (inner m ns) s y := by
      have e : y ∈ inner m ns n := mem_inner.mpr ⟨hnn, hym, c.1⟩
      rcases hrn with q | q
      · rw [← q]; exact .one e
      · exact .more q e
    refine ⟨⟨?_, ?_, List.mem_append_left _ h.r.hd, fun x hx => ?_, fun j x hj hx w hw hwn => ?_⟩, ⟨z ++ [y], by rw [ez, List.append_assoc]⟩, fun w hw hwn => ?_⟩
    · rw [List.nodup_append]
      exact ⟨h.r.nd, by simp, fun a ha b hb w => c.2 (by rw [← List.mem_singleton.mp hb, ← w]; exact ha)⟩
    · rw [List.length_append]; exact Nat.le_trans h.r.le (Nat.le_add_right _ _)
    · rcases List.mem_append.mp hx with q | q
      · exact h.r.ok x q
      · rw [List.mem_singleton.mp q]; exact ⟨c.1, .inr ry⟩
    · rw [List.getElem?_append_left (by have := h.r.le; omega)] at hx
      exact List.mem_append_left _ (h.r.cl j x hj hx w hw hwn)
    · rw [take_more hy] at hw
      rcases List.mem_append.mp hw with q | q
      · exact List.mem_append_left _ (h.got w q hwn)
      · exact List.mem_append_right _ q
  · rw [if_neg c]
    refine ⟨h.r, h.pre, fun w hw hwn => ?_⟩
    rw [take_more hy] at hw
    rcases List.mem_append.mp hw with q | q
    · exact h.got w q hwn
    · have e := List.mem_singleton.mp q
      rw [e] at hwn ⊢
      by_cases d : y ∈ row
      · exact d
      · exact absurd ⟨hwn, d⟩ c
theorem Row1.done {m : LM} {ns : List Str} {s n : Str} {row0 row : List Str} {k i : Nat} (h : Row1 m ns s row0 row k (lof m n) i) (hn : row0[k]? = some n) (hi : (lof m n).length ≤ i) : Row m ns s row (k + 1) := by
  obtain ⟨z, ez⟩ := h.pre
  have hlt := (List.getElem?_eq_some_iff.mp hn).1
  have hkn : row[k]? = some n := by
    rw [ez, List.getElem?_append_left hlt]
    exact hn
  refine ⟨h.r.nd, by rw [ez, List.length_append]; omega, h.r.hd, h.r.ok, fun j x hj hx => ?_⟩
  by_cases c : j = k
  · subst c
    rw [hkn] at hx
    cases hx
    intro y hy hyn
    exact h.got y (by rw [List.take_of_length_le hi]; exact hy) hyn
  · exact h.r.cl j x (by omega) hx
theorem Row.done {m : LM} {ns : List Str} {s : Str} {row : List Str} {k : Nat} (h : Row m ns s row k) (e : ¬ k < row.length) (x : Str) : x ∈ row ↔ x = s ∨ Rch (inner m ns) s x := by
  refine ⟨fun hx => (h.ok x hx).2, fun hx => ?_⟩
  have cl : ∀ z ∈ row, ∀ y ∈ inner m ns z, y ∈ row := fun z hz y hy => by
    obtain ⟨i, hi, e2⟩ := List.mem_iff_getElem.mp hz
    obtain ⟨_, h2, h3⟩ := mem_inner.mp hy
    exact h.cl i z (by have := h.le; omega) (by rw [List.getElem?_eq_getElem hi, e2]) y h2 h3
  rcases hx with q | q
  · rw [q]; exact h.hd
  · exact q.closed (S := fun x => x ∈ row) (fun y hy => cl s h.hd y hy) cl
/-- what the law comes to: the same lists -/
noncomputable def dueStep (f : Str → List Str) (ns : List Str) (acc : List (List Str)) (n : Str) : List (List Str) := if knotM f ns n ∈ acc then acc else acc ++ [knotM f ns n]
theorem due_eq {f : Str → List Str} {ns : List Str} : ∀ (l : List Str) (acc : List (List Str)), (∀ k ∈ acc, ∃ n ∈ ns, k = knotM f ns n) → (∀ n ∈ l, n ∈ ns) → l.foldl (dueStep f ns) acc = l.foldl (knStep f ns) acc
  | [], _, _, _ => rfl
  | n :: r, acc, h, hl => by
    have e : dueStep f ns acc n = knStep f ns acc n := by
      unfold dueStep knStep
      have q := notIn_iff h (hl n List.mem_cons_self)
      by_cases c : knotM f ns n ∈ acc
      · rw [if_pos c, if_pos (q.mpr c)]
      · rw [if_neg c, if_neg (fun z => c (q.mp z))]
    rw [List.foldl_cons, List.foldl_cons, e]
    refine due_eq r _ (fun k hk => ?_) fun x hx => hl x (List.mem_cons_of_mem _ hx)
    rw [← e] at hk
    unfold dueStep at hk
    split at hk
    · exact h k hk
    · rcases List.mem_append.mp hk with z | z
      · exact h k z
      · exact ⟨n, hl n List.mem_cons_self, List.mem_singleton.mp z⟩
end Aw

namespace Aw
open PySem L2 PySem.Spec PyProof.Rows
/-! ### xs[lo:hi:k], k written, not 0 -/
def pickI (n : Nat) (lo hi : Option Int) (k : Int) : List Nat := sliceRange (sliceBounds lo hi (some k) n).1 (sliceBounds lo hi (some k) n).2.1 (sliceBounds lo hi (some k) n).2.2
def pickV {α : Type} (xs : List α) (lo hi : Option Int) (k : Int) : List α := (pickI xs.length lo hi k).filterMap fun i => xs[i]?
theorem vals_pick {xs : List V} {us : List Value} (r : Vals xs us) : ∀ is : List Nat, Vals (is.filterMap fun i => xs[i]?) (is.filterMap fun i => us[i]?)
  | [] => .nil
  | i :: t => by
    have ih := vals_pick r t
    have hl := r.length
    rw [List.filterMap_cons, List.filterMap_cons]
    by_cases h : i < xs.length
    · obtain ⟨w, ew, rw'⟩ := r.get (List.getElem?_eq_getElem h)
      rw [List.getElem?_eq_getElem h, ew]
      exact .cons rw' ih
    · rw [List.getElem?_eq_none (by omega), List.getElem?_eq_none (by omega)]
      exact ih
def tSlK (K : PySem.W.Frag) (te : TE) (tl th : TO) (k : Int) : TE := fun σ H Q => te σ H fun x H1 => tl σ H1 fun lo H2 => th σ H2 fun hi H3 => ∃ a xs, x = .ref a ∧ SqL K H3 a xs ∧ ∀ p, H3 p = none → Q (.ref p) (upd H3 p (.lst (pickV xs lo hi k)))
section
variable {X : Cx}
theorem pe_sliceK {e : Expr} {te : TE} {lo hi : Option Expr} {tl th : TO} {k : Nat} {j : Nat} {p1 p2 pos : Pos} (he : PE X e te) (hl : PO X lo tl) (hu : PO X hi th) (hk : ((k : Nat) : Int) ≠ 0 := by decide) :
    PE X (.Subscript e (.Slice lo hi (some (.Constant (.int k) j p1)) p2) pos) (tSlK X.K te tl th ((k : Nat) : Int)) := by
  refine ⟨fun pins s σ H Q I h => ?_⟩
  refine Subscript_ (thn (he.run pins s σ H _ I h) fun v s1 ⟨x, H1, I1, r1, q1⟩ => ?_)
  refine wpAny_Slice (thn (hl.run pins s1 σ H1 _ I1 q1) fun vl s2 ⟨l, H2, I2, pl, q2⟩ => thn (hu.run pins s2 σ H2 _ I2 q2) fun vu s3 ⟨u, H3, I3, pu, q3⟩ => ?_)
  have hst : PO X (some (.Constant (.int k) j p1)) (tPart (tC (.int k))) := po_some pe_int
  refine thn (hst.run pins s3 σ H3 (fun o H4 => o = some ((k : Nat) : Int) ∧ H4 = H3) I3 ⟨_, rfl, rfl, rfl⟩) fun vs s4 ⟨o, H4, I4, ps, eo, e4⟩ => ?_
  subst eo e4
  obtain ⟨a, xs, ex, hx, q⟩ := q3
  subst ex
  cases r1
  have I5 : Inv X pins σ H4 { s4 with heap := s4.heap.push { cls := .type "slice", data := .fields #[vl, vu, vs] } } := I4.kept (t' := s4.toks) fun b ob q => Heap.get?_push_of_some _ q
  obtain ⟨its, r, ht, hz⟩ := I5.list hx
  have hlen := r.length
  show wpAny (model X.prog X.w) X.A (subscriptTail e (.Slice lo hi (some (.Constant (.int k) j p1)) p2) (.ref a) (.ref s4.heap.objs.size)) (EP X pins σ Q) X.xe { s4 with heap := s4.heap.push { cls := .type "slice", data := .fields #[vl, vu, vs] } }
  refine tail_any (ops := [.ref a, .ref s4.heap.objs.size]) ht.isList.typeIs (PySem.slot_list_getitem.lookup) ?_ (by with_unfolding_all rfl)
  refine wpAny_getItem_list_slice ht.isList (Heap.IsSliceOf.new _ vl vu vs) pl pu ps (by simpa using hk) ?_ (by rw [List.size_toArray]; omega)
  have ep : slicePick its.toArray l u (some ((k : Nat) : Int)) = (pickV its l u ((k : Nat) : Int)).toArray := by
    unfold slicePick pickV pickI
    rw [List.size_toArray]
    congr 2
    funext i
    simp
  rw [ep]
  refine ⟨.ref _, _, I5.laid (t' := s4.toks) (o := .lst (pickV xs l u ((k : Nat) : Int))) (fun b ob q => Heap.get?_push_of_some _ q) (Nat.le_refl _) ?_, rfl, q _ (I5.hok.fresh (Nat.le_refl _))⟩
  refine ⟨?_, _, 0, ?_, Heap.get?_push_size _ rfl⟩
  · have h1 := slicePick_size_le its.toArray l u (some ((k : Nat) : Int))
    rw [ep, List.size_toArray, List.size_toArray] at h1
    have h2 : (pickV xs l u ((k : Nat) : Int)).length = (pickV its l u ((k : Nat) : Int)).length := by
      have z := vals_pick r (pickI xs.length l u ((k : Nat) : Int))
      unfold pickV
      rw [← hlen]
      exact z.length
    omega
  · unfold pickV
    rw [← hlen]
    exact vals_pick r _
end
theorem pick_map {α β : Type} (g : α → β) (xs : List α) (lo hi : Option Int) (k : Int) : pickV (xs.map g) lo hi k = (pickV xs lo hi k).map g := by
  unfold pickV
  rw [List.length_map, List.map_filterMap]
  congr 1
  funext i
  rw [List.getElem?_map]
theorem odd_even : ∀ n : Fin 12, (pickI n (some 1) none 2 ++ pickI n none none 2).Nodup ∧ ∀ i ∈ pickI n (some 1) none 2 ++ pickI n none none 2, i < n.val := by decide +kernel
theorem pick_sub {l : List Str} : ∀ {is : List Nat}, ∀ x ∈ is.filterMap (fun i => l[i]?), x ∈ l := by
  intro is x hx
  obtain ⟨i, _, e⟩ := List.mem_filterMap.mp hx
  exact List.mem_of_getElem? e
theorem pick_nodup {l : List Str} (nd : l.Nodup) : ∀ {is : List Nat}, is.Nodup → (is.filterMap fun i => l[i]?).Nodup
  | [], _ => .nil
  | i :: t, h => by
    rw [List.nodup_cons] at h
    have ih := pick_nodup nd h.2
    rw [List.filterMap_cons]
    cases e : l[i]? with
    | none => exact ih
    | some x =>
      rw [List.nodup_cons]
      refine ⟨fun hx => ?_, ih⟩
      obtain ⟨j, hj, e2⟩ := List.mem_filterMap.mp hx
      have h1 := List.getElem?_eq_some_iff.mp e
      have h2 := List.getElem?_eq_some_iff.mp e2
      have := (List.getElem_inj (h₀ := h1.1) (h₁ := h2.1) nd).mp (h1.2.trans h2.2.symm)
      exact h.1 (by rw [this]; exact hj)
theorem odds_evens {l : List Str} (nd : l.Nodup) (hl : l.length < 12) : (pickV l (some 1) none 2 ++ pickV l none none 2).Nodup ∧ ∀ x ∈ pickV l (some 1) none 2 ++ pickV l none none 2, x ∈ l := by
  obtain ⟨h1, _⟩ := odd_even ⟨l.length, hl⟩
  have e : pickV l (some 1) none 2 ++ pickV l none none 2 = (pickI l.length (some 1) none 2 ++ pickI l.length none none 2).filterMap fun i => l[i]? := by
    rw [List.filterMap_append]
    rfl
  rw [e]
  exact ⟨pick_nodup nd h1, pick_sub⟩
end Aw

namespace Aw
open PySem L2
section
variable {X : Cx} {pins : List (Addr × Obj)} {σ : St} {H : Hp} {s : Shared}
theorem hits_data (I : Inv X pins σ H s) {A : Around} (hu : A.in1.units + 64 < cLine) {ls : List (Key × V)} {vb : List (Key × Value)} (rb : KV ls vb) : ∀ {ks : List (Key × V)} {va : List (Key × Value)}, KV ks va →
    (∀ p ∈ ks, ∃ u d e, valV ls p.1 = some u ∧ Dp X.K H p.2 d ∧ Dp X.K H u e ∧ SeqAt.shaped d = true ∧ SeqAt.shaped e = true ∧ PyData.eqv d e = true) → PySem.W.KeqHits A.in1 s vb va true := by
  intro ks va ra
  unfold KV at ra
  induction ra with
  | nil => intro _; exact .nil
  | @cons p q ps qs h t ih =>
    intro hp
    obtain ⟨h1, h2⟩ := h
    obtain ⟨u, d, e, f, hd, he, sd, se, q'⟩ := hp p List.mem_cons_self
    have rr : RelO (some u) (valueAt vb p.1) := by rw [← f]; exact rb.val p.1
    obtain ⟨y, hy, ry⟩ := rr.some_of
    obtain ⟨k, v⟩ := q
    have h1' : p.1 = k := h1
    rw [h1'] at hy
    obtain ⟨as, r1⟩ := Dp.reads I d _ _ hd h2
    obtain ⟨bs, r2⟩ := Dp.reads I e _ _ he ry
    have w := PySem.W.keq_at (A := A) r1 r2 sd se hu
    rw [q'] at w
    have z : PySem.W.KeqHits A.in1 s vb ((k, v) :: qs) (true && true) := .hit hy w (ih fun p' hm => hp p' (List.mem_cons_of_mem _ hm))
    exact z
end
section
variable {X : Cx}
/-- two dicts that hold equal data are not unlike -/
def rNeDD (K : PySem.W.Frag) : R2 := fun x y H Q => ∃ a b ks ls, x = .ref a ∧ y = .ref b ∧ H a = some (.dK ks) ∧ H b = some (.dK ls) ∧ ks.length = ls.length ∧ (∀ p ∈ ks, ∃ u d e, valV ls p.1 = some u ∧ Dp K H p.2 d ∧ Dp K H u e ∧ SeqAt.shaped d = true ∧ SeqAt.shaped e = true ∧ PyData.eqv d e = true) ∧ Q (.bl false) H
theorem op_neDD (hu : X.A.units + 65 < cLine) : OpR X (compareOp .NotEq) (rNeDD X.K) := by
  intro pins s σ H x y v u Q I rx ry h
  obtain ⟨a, b, ks, ls, rfl, rfl, ea, eb, hlen, hp, q⟩ := h
  obtain rfl : v = Value.ref a := rx
  obtain rfl : u = Value.ref b := ry
  obtain ⟨_, ya, va, ra, da⟩ := (show ObjOk X.prog X.w H s.heap a (.dK ks) from I.hok a _ ea)
  obtain ⟨_, yb, vb, rb, db⟩ := (show ObjOk X.prog X.w H s.heap b (.dK ls) from I.hok b _ eb)
  have hl : va.length = vb.length := by rw [← ra.length, ← rb.length]; exact hlen
  exact PySem.W.keq_ne (knd := mixKind X.prog X.w) ya yb da db (by omega) (fun _ => hits_data I (by show X.A.units + 1 + 64 < cLine; omega) rb ra hp) (fin_bl I q (by simp [hl]))
end
theorem eqvS : ∀ a b : List Str, PyData.eqvAll (a.map PyData.str) (b.map PyData.str) = decide (a = b)
  | [], [] => by simp [PyData.eqvAll]
  | [], y :: b => by simp [PyData.eqvAll]
  | x :: a, [] => by simp [PyData.eqvAll]
  | x :: a, y :: b => by
    have ih := eqvS a b
    rw [List.map_cons, List.map_cons, PyData.eqvAll, ih]
    by_cases c : x = y
    · subst c
      by_cases d : a = b
      · subst d; simp [PyData.eqv]
      · simp [PyData.eqv, d]
    · simp [PyData.eqv, c]
theorem eqvL (a b : List Str) : PyData.eqv (.list (a.map PyData.str)) (.list (b.map PyData.str)) = decide (a = b) := by
  rw [PyData.eqv]
  exact eqvS a b
theorem u65 {k : Nat} {A : Around} (r : Room k A) : A.units + 65 < cLine := by have := r.un; omega
theorem canl_strs : ∀ (ll : List (List Str)), (∀ l ∈ ll, ∀ s ∈ l, NameOk s) → PyData.canLayAll0 (ll.map fun l => PyData.list (l.map PyData.str)) = true
  | [], _ => by simp [PyData.canLayAll0]
  | l :: r, h => by
    show (PyData.canLay0 (.list (l.map PyData.str)) && PyData.canLayAll0 (r.map fun l => PyData.list (l.map PyData.str))) = true
    rw [canl_strs r fun u hu => h u (List.mem_cons_of_mem _ hu), Bool.and_true]
    unfold PyData.canLay0
    exact can_strs l (h l List.mem_cons_self)
theorem depthl_strs : ∀ (ll : List (List Str)), PyData.depthAll (ll.map fun l => PyData.list (l.map PyData.str)) ≤ 3
  | [] => by show PyData.depthAll [] ≤ 3; unfold PyData.depthAll; omega
  | l :: r => by
    have ih := depthl_strs r
    show max (PyData.depth (.list (l.map PyData.str))) (PyData.depthAll (r.map fun l => PyData.list (l.map PyData.str))) ≤ 3
    have e : PyData.depth (.list (l.map PyData.str)) ≤ 3 := by have := depth_strs l; unfold PyData.depth; omega
    omega
theorem shaped_lls {ll : List (List Str)} (h : ∀ l ∈ ll, ∀ s ∈ l, NameOk s) : SeqAt.shaped (.list (ll.map fun l => PyData.list (l.map PyData.str))) = true := by
  unfold SeqAt.shaped
  have e1 : PyData.canLay0 (.list (ll.map fun l => PyData.list (l.map PyData.str))) = true := by unfold PyData.canLay0; exact canl_strs ll h
  have e2 : PyData.depth (.list (ll.map fun l => PyData.list (l.map PyData.str))) ≤ 64 := by
    have := depthl_strs ll
    unfold PyData.depth
    omega
  rw [e1, decide_eq_true e2]
  rfl
theorem any_lls (ll : List (List Str)) (l : List Str) : ((ll.map fun l => PyData.list (l.map PyData.str)).any fun z => PyData.eqv z (.list (l.map PyData.str))) = decide (l ∈ ll) := by
  induction ll with
  | nil => rfl
  | cons a r ih =>
    rw [List.map_cons, List.any_cons, ih, eqvL]
    by_cases c : a = l
    · subst c; simp
    · rw [decide_eq_false c, Bool.false_or]
      have : (l ∈ a :: r) ↔ l ∈ r := by
        rw [List.mem_cons]
        exact ⟨fun h => h.elim (fun z => absurd z.symm c) id, .inr⟩
      exact decide_eq_decide.mpr this.symm
theorem dp_lls {K : PySem.W.Frag} {H : Hp} : ∀ {ks : List (Addr × List Str)}, (∀ q ∈ ks, H q.1 = some (.lst (q.2.map V.str))) → DpAll K H (ks.map fun q => V.ref q.1) ((ks.map (·.2)).map fun l => PyData.list (l.map PyData.str))
  | [], _ => .nil
  | q :: r, h => .cons (.lst (SqL.of (h q List.mem_cons_self)) (dp_strs _)) (dp_lls fun z hz => h z (List.mem_cons_of_mem _ hz))
theorem eqS1 {K : PySem.W.Frag} {H : Hp} : ∀ l : List Str, Paired (EqV K H 1) (l.map V.str) (l.map V.str)
  | [] => .nil
  | s :: r => .cons (.inl ⟨rfl, rfl⟩) (eqS1 r)
theorem paired_lls {K : PySem.W.Frag} {H : Hp} : ∀ {ks ds : List (Addr × List Str)}, (∀ q ∈ ks, H q.1 = some (.lst (q.2.map V.str))) → (∀ q ∈ ds, H q.1 = some (.lst (q.2.map V.str))) → ks.map (·.2) = ds.map (·.2) → Paired (EqV K H 2) (ks.map fun q => V.ref q.1) (ds.map fun q => V.ref q.1)
  | [], [], _, _, _ => .nil
  | [], _ :: _, _, _, e => by simp at e
  | _ :: _, [], _, _, e => by simp at e
  | k :: ks, d :: ds, hk, hd, e => by
    rw [List.map_cons, List.map_cons, List.cons.injEq] at e
    refine .cons (.inr (.inr (.inl ⟨k.1, d.1, _, _, rfl, rfl, SqL.of (hk k List.mem_cons_self), SqL.of (hd d List.mem_cons_self), ?_⟩))) (paired_lls (fun z hz => hk z (List.mem_cons_of_mem _ hz)) (fun z hz => hd z (List.mem_cons_of_mem _ hz)) e.2)
    rw [e.1]
    exact eqS1 _
theorem cut_str (l : List Str) (lo : Option Int) : ∃ l' : List Str, cutV (l.map V.str) lo none = l'.map V.str ∧ l'.Sublist l := by
  unfold cutV
  refine ⟨(l.drop (HT.sIx (l.map V.str).length 0 lo)).take (HT.sIx (l.map V.str).length (l.map V.str).length none - HT.sIx (l.map V.str).length 0 lo), ?_, ?_⟩
  · rw [List.map_take, List.map_drop]
  · exact (List.take_sublist _ _).trans (List.drop_sublist _ _)
end Aw

namespace Aw
open PySem L2
def top (i : Nat) : Stmt := PySem.Challenge.pw_anewhall_k07_knots_of_names.main.body.getD i (.Pass ⟨0, 0, 0, 0⟩)
abbrev s_knots_of : Stmt := top 1
/- slots 0:names 1:leans 2:name 3:within 4:backward 5:other 6:placed 7:knots 8:knot 9:each -/
theorem sc_knots_of : FnScope ["names", "leans", "name", "within", "backward", "other", "placed", "knots", "knot", "each"] ["names", "leans"] (defScope s_knots_of) := ⟨rfl, rfl, rfl, by decide +kernel, rfl, by decide +kernel, by decide +kernel⟩
abbrev s_knot_of : Stmt := top 2
/- slots 0:name 1:within 2:backward 3:ahead 4:behind 5:other; cells name ahead behind -/
theorem sc_knot_of : FnScope ["name", "within", "backward", "ahead", "behind", "other"] ["name", "within", "backward"] (defScope s_knot_of) := ⟨rfl, rfl, rfl, by decide +kernel, rfl, by decide +kernel, by decide +kernel⟩
abbrev s_reached : Stmt := top 3
/- slots 0:name 1:leans 2:found 3:waiting 4:other -/
theorem sc_reached : FnScope ["name", "leans", "found", "waiting", "other"] ["name", "leans"] (defScope s_reached) := ⟨rfl, rfl, rfl, by decide +kernel, rfl, by decide +kernel, by decide +kernel⟩
abbrev s_law_cell_at : Stmt := top 5
/- slots 0:_law_script 1:_law_k -/
theorem sc_law_cell_at : FnScope ["_law_script", "_law_k"] ["_law_script", "_law_k"] (defScope s_law_cell_at) := ⟨rfl, rfl, rfl, by decide +kernel, rfl, by decide +kernel, by decide +kernel⟩
abbrev s_law_names : Stmt := top 6
/- slots 0:_law_cell 1:_law_many 2:_law_letters 3:_law_size 4:_law_at 5:_law_out 6:_law_k 7:_law_name 8:_law_place 9:_law_step -/
theorem sc_law_names : FnScope ["_law_cell", "_law_many", "_law_letters", "_law_size", "_law_at", "_law_out", "_law_k", "_law_name", "_law_place", "_law_step"] ["_law_cell", "_law_many"] (defScope s_law_names) := ⟨rfl, rfl, rfl, by decide +kernel, rfl, by decide +kernel, by decide +kernel⟩
abbrev s_law_leans : Stmt := top 7
/- slots 0:_law_cells 1:_law_names_here 2:_law_leans_here 3:_law_cell 4:_law_one -/
theorem sc_law_leans : FnScope ["_law_cells", "_law_names_here", "_law_leans_here", "_law_cell", "_law_one"] ["_law_cells", "_law_names_here"] (defScope s_law_leans) := ⟨rfl, rfl, rfl, by decide +kernel, rfl, by decide +kernel, by decide +kernel⟩
abbrev s_law_ways : Stmt := top 8
/- slots 0:_law_names_here 1:_law_leans_here 2:_law_ways_here 3:_law_name 4:_law_row 5:_law_k 6:_law_other -/
theorem sc_law_ways : FnScope ["_law_names_here", "_law_leans_here", "_law_ways_here", "_law_name", "_law_row", "_law_k", "_law_other"] ["_law_names_here", "_law_leans_here"] (defScope s_law_ways) := ⟨rfl, rfl, rfl, by decide +kernel, rfl, by decide +kernel, by decide +kernel⟩
abbrev s_law : Stmt := top 9
/- slots 0:_law_script 1:_law_names_here 2:_law_leans_here 3:_law_way 4:_law_handed 5:_law_name 6:_law_given 7:_law_found 8:_law_ways_here 9:_law_due 10:_law_knot 11:_law_other; cells _law_name _law_ways_here -/
theorem sc_law : FnScope ["_law_script", "_law_names_here", "_law_leans_here", "_law_way", "_law_handed", "_law_name", "_law_given", "_law_found", "_law_ways_here", "_law_due", "_law_knot", "_law_other"] ["_law_script"] (defScope s_law) := ⟨rfl, rfl, rfl, by decide +kernel, rfl, by decide +kernel, by decide +kernel⟩
end Aw

namespace Aw
open PySem L2
/-! ### common to all rows -/
theorem len_sg1 (c : Nat) : (sg1 c).length = 1 := rfl
theorem len_app (a b : Str) : (a ++ b).length = a.length + b.length := by
  show (a.cps ++ b.cps).size = _
  rw [Array.size_append] <;> rfl
theorem big {n : Nat} (h : n ≤ 100000) : n ≤ sizeLine := Nat.le_trans h (by decide)
end Aw

namespace Aw
open PySem L2
/-! ### the law's own helpers -/
def spCell (K : PySem.W.Frag) : Sp := fun vs H Q _ => ∃ (a : Addr) (ns : List Int) (k : Nat), vs = [.ref a, .int k] ∧ SqL K H a (ns.map V.int) ∧ ns.length ≤ 63 ∧ ∀ i : Int, Q (.int i) H
def spNames : Sp := fun vs H Q _ => ∃ (c m : Int), vs = [.int c, .int m] ∧ 0 ≤ m ∧ m ≤ 100 ∧ ∀ (l : Addr) (H' : Hp) (nms : List Str), Same H H' → H l = none → H' l = some (.lst (nms.map V.str)) → (nms.length : Int) = m → (∀ s ∈ nms, NameOk s) → Q (.ref l) H'
structure TxtL (K : PySem.W.Frag) (mg : Str → Option Value) : Prop where
  len : mg "len" = none
  int : mg "int" = none
  range : mg "range" = none
  str : mg "str" = none
section
variable {P : Program} {w : World} {K : PySem.W.Frag} {mg : Str → Option Value} {base : Heap} {f : Addr} {fd : FuncData}
theorem ok_cell (F : Fun K "_law_cell_at" "_law_cell_at" s_law_cell_at f fd) (T : TxtL K mg) : FnOk P w K mg base CX0 1 f fd ["_law_script", "_law_k"] (spCell K) := by
  refine F.ok sc_law_cell_at (fun vs H Q E h => ?_) (fun cdv A outer s H vs Q E hr h => ?_)
  · obtain ⟨a, ns, k, rfl, _⟩ := h
    rfl
  obtain ⟨a, ns, k, rfl, hS, h63, q⟩ := h
  refine ⟨_, pss_cons (ps_if (pt_cmpR op_lt (pv 1) (pe_callB call_len_seq (by rfl) T.len PySem.boot_len (pa_cons (pv 0) pa_nil)) (nomark _)) (pss_one (ps_ret (pe_ix ix_list (pv 0) (pv 1) (fun _ _ => rfl)))) pss_nil)
    (pss_one (ps_ret pe_int)), ?_⟩
  refine ⟨_, rfl, _, rfl, a, _, rfl, .inl hS, _, _, rfl, rfl, _, rfl, ?_⟩
  refine ite2 (fun c => ?_) (fun c => ?_)
  · have c' : (k : Int) < (((ns.map V.int).length : Nat) : Int) := of_decide_eq_true c
    rw [List.length_map] at c'
    have hk : k < ns.length := by omega
    refine ⟨_, rfl, _, rfl, a, _, _, _, rfl, rfl, hS, atI_nat (v := .int ns[k]) ?_, q _⟩
    rw [List.getElem?_map, List.getElem?_eq_getElem hk]
    rfl
  · exact q 0
end
end Aw

namespace Aw
open PySem L2
section
variable {P : Program} {w : World} {K : PySem.W.Frag} {mg : Str → Option Value} {base : Heap} {f : Addr} {fd : FuncData}
theorem let_at {n : Int} (h0 : 0 ≤ n) (h1 : n < 26) : ∃ c, c ∈ LET ∧ atI (("abcdefghijklmnopqrstuvwxyz" : Str)).cps.toList n = some c := by
  have hk : n.toNat < LET.length := by
    have e : LET.length = 26 := by decide +kernel
    omega
  refine ⟨LET[n.toNat], List.getElem_mem hk, ?_⟩
  have q : atI LET ((n.toNat : Nat) : Int) = some LET[n.toNat] := atI_nat (List.getElem?_eq_getElem hk)
  rwa [show ((n.toNat : Nat) : Int) = n by omega] at q
theorem nameOk_of {z : Str} (h1 : 1 ≤ z.length) (h6 : z.length ≤ 6) (h : ∀ c ∈ z.cps.toList, c ∈ LET) : NameOk z := by
  unfold NameOk nameM
  rw [decide_eq_true (show 1 ≤ z.length ∧ z.length ≤ 6 from ⟨h1, h6⟩), Bool.true_and, List.all_eq_true]
  exact fun c hc => decide_eq_true (h c hc)
theorem mem_app1 {z : Str} {c : Nat} (h : ∀ x ∈ z.cps.toList, x ∈ LET) (hc : c ∈ LET) : ∀ x ∈ (z ++ sg1 c).cps.toList, x ∈ LET := by
  intro x hx
  have e : (z ++ sg1 c).cps.toList = z.cps.toList ++ [c] := by
    show (z.cps ++ #[c]).toList = _
    rw [Array.toList_append]
  rw [e] at hx
  rcases List.mem_append.mp hx with q | q
  · exact h x q
  · rw [List.mem_singleton.mp q]; exact hc
theorem ok_names (F : Fun K "_law_names" "_law_names" s_law_names f fd) (T : TxtL K mg) : FnOk P w K mg base CX0 1 f fd ["_law_cell", "_law_many"] spNames := by
  refine F.ok sc_law_names (fun vs H Q E h => ?_) (fun cdv A outer s H vs Q E hr h => ?_)
  · obtain ⟨c, m, rfl, _⟩ := h
    rfl
  obtain ⟨c, m, rfl, m0, m1, q⟩ := h
  have nd := sc_law_names.nd
  refine ⟨_, pss_cons (ps_set (i := 2) nd rfl (.inl rfl) pe_str)
    (pss_cons (ps_set (i := 3) nd rfl (.inl rfl) (pe_op op_add pe_int (pe_op op_mod (pv 0) pe_int)))
    (pss_cons (ps_set (i := 4) nd rfl (.inl rfl) (pe_op op_mod (pe_op op_fdiv (pv 0) pe_int) (pv 3)))
    (pss_cons (ps_set (i := 5) nd rfl (.inl rfl) (pe_lst pa_nil))
    (pss_cons (ps_for PassesOwn.never rfl (pi_range1 rfl T.range (pa_cons (pv 1) pa_nil)) (pg_name (i := 6) nd rfl (.inl rfl))
      (pss_cons (ps_set (i := 7) nd rfl (.inl rfl) pe_str)
      (pss_cons (ps_for PassesOwn.never rfl (pi_range1 rfl T.range (pa_cons (pv 3) pa_nil)) (pg_name (i := 8) nd rfl (.inl rfl))
        (pss_cons (ps_set (i := 9) nd rfl (.inl rfl) (pe_op op_add (pe_op op_mod (pe_op op_fdiv (pv 0) pe_int) pe_int) (pe_op op_mul pe_int (pv 8))))
        (pss_cons (ps_if (pt_cmpR op_eq (pv 8) (pv 4) (nomark _)) (pss_one (ps_set (i := 9) nd rfl (.inl rfl) (pe_op op_add (pv 9) (pv 6)))) pss_nil)
        (pss_one (ps_set (i := 7) nd rfl (.inl rfl) (pe_op op_add_str (pv 7) (pe_ix ix_str (pv 2) (pe_op op_mod (pv 9) pe_int) (fun _ _ => rfl))))))))
      (pss_one (ps_expr (pe_bm PySem.F.plainAttrs_list PySem.F.slot_list_append PySem.F.type_list_append mt_append (pv 5) (pa_cons (pv 7) pa_nil)))))))
    (pss_one (ps_ret (pv 5))))))), ?_⟩
  have hs0 : 0 ≤ c % 6 := Int.emod_nonneg _ (by decide)
  have hs1 : c % 6 < 6 := Int.emod_lt_of_pos _ (by decide)
  refine ⟨_, rfl, _, _, rfl, rfl, (by show (0 : Int) < 6; decide), _, _, rfl, rfl, ?_⟩
  refine ⟨_, rfl, _, _, rfl, rfl, ⟨by decide, by decide⟩, _, rfl, _, _, rfl, rfl, (by show 0 < 1 + c % 6; omega), ?_⟩
  refine ⟨(by show 0 ≤ sizeLine; decide), fun l hl => ?_⟩
  refine ⟨_, rfl, m, rfl, by omega, by omega, ?_⟩
  refine for_range (lo := 0) (n := m.toNat) (fun i σ H' => ∃ (nms : List Str) (v6 v7 v8 v9 : Option V), σ = [some (.int c), some (.int m), some (.str "abcdefghijklmnopqrstuvwxyz"), some (.int (1 + c % 6)), some (.int (c / 6 % (1 + c % 6))), some (.ref l), v6, v7, v8, v9] ∧
    Same H H' ∧ H' l = some (.lst (nms.map V.str)) ∧ nms.length = i ∧ ∀ s ∈ nms, NameOk s) ⟨[], none, none, none, none, rfl, same_new hl _, upd_same, rfl, fun s hs => by cases hs⟩ ?_ ?_
  · rintro i σ H1 hi ⟨nms, v6, v7, v8, v9, rfl, s1, e1, hlen, hok⟩
    refine ⟨_, rfl, 1 + c % 6, rfl, by omega, by omega, ?_⟩
    refine for_range (lo := 0) (n := (1 + c % 6).toNat) (fun j σ H' => ∃ (z : Str) (v8 v9 : Option V), σ = [some (.int c), some (.int m), some (.str "abcdefghijklmnopqrstuvwxyz"), some (.int (1 + c % 6)), some (.int (c / 6 % (1 + c % 6))), some (.ref l), some (.int (0 + (i : Int))), some (.str z), v8, v9] ∧
      H' = H1 ∧ z.length = j ∧ ∀ x ∈ z.cps.toList, x ∈ LET) ⟨Str.empty, _, _, rfl, rfl, rfl, fun x hx => by cases hx⟩ ?_ ?_
    · rintro j σ H2 hj ⟨z, v8, v9, rfl, rfl, hz, hl'⟩
      refine ⟨_, rfl, _, _, rfl, rfl, ⟨by decide, by decide⟩, _, _, rfl, rfl, (by show (0 : Int) < 26; decide), _, rfl, _, _, rfl, rfl, .inl ⟨by decide, by decide⟩, _, _, rfl, rfl, ?_⟩
      refine ⟨_, rfl, _, rfl, rfl, _, rfl, ?_⟩
      have hz6 : (j : Int) < 6 := by omega
      refine ite2 (fun _ => ?_) (fun _ => ?_)
      · refine ⟨_, rfl, _, rfl, _, _, rfl, rfl, ?_⟩
        obtain ⟨ch, hc, ec⟩ := let_at (n := (c / 36 % 26 + 5 * (0 + (j : Int)) + (0 + (i : Int))) % 26) (Int.emod_nonneg _ (by decide)) (Int.emod_lt_of_pos _ (by decide))
        refine ⟨_, rfl, _, rfl, _, rfl, _, _, rfl, rfl, (by show (0 : Int) < 26; decide), _, _, ch, rfl, rfl, (by decide +kernel), ec, z, sg1 ch, rfl, rfl, big (by rw [len_sg1]; omega), ?_⟩
        exact ⟨z ++ sg1 ch, _, _, rfl, rfl, by rw [len_app, len_sg1, hz], mem_app1 hl' hc⟩
      · obtain ⟨ch, hc, ec⟩ := let_at (n := (c / 36 % 26 + 5 * (0 + (j : Int))) % 26) (Int.emod_nonneg _ (by decide)) (Int.emod_lt_of_pos _ (by decide))
        refine ⟨_, rfl, _, rfl, _, rfl, _, _, rfl, rfl, (by show (0 : Int) < 26; decide), _, _, ch, rfl, rfl, (by decide +kernel), ec, z, sg1 ch, rfl, rfl, big (by rw [len_sg1]; omega), ?_⟩
        exact ⟨z ++ sg1 ch, _, _, rfl, rfl, by rw [len_app, len_sg1, hz], mem_app1 hl' hc⟩
    · rintro σ H2 ⟨z, v8, v9, rfl, rfl, hz, hl'⟩
      refine ⟨_, rfl, .inl ⟨rfl, _, SqL.of e1⟩, _, rfl, l, _, _, rfl, rfl, e1, small1000 (by rw [List.length_map]; omega), ?_⟩
      refine ⟨nms ++ [z], _, _, _, _, rfl, same_upd s1 hl _, (by rw [upd_same, List.map_append]; rfl), by rw [List.length_append, List.length_singleton, hlen], fun s hs => ?_⟩
      rcases List.mem_append.mp hs with q | q
      · exact hok s q
      · rw [List.mem_singleton.mp q]
        exact nameOk_of (by omega) (by omega) hl'
  · rintro σ H1 ⟨nms, v6, v7, v8, v9, rfl, s1, e1, hlen, hok⟩
    exact ⟨_, rfl, q l H1 nms s1 hl e1 (by omega) hok⟩
end
end Aw

namespace Aw
open PySem L2
/-! ### where names lead: reached -/
def spReached : Sp := fun vs H Q _ => ∃ (s : Str) (D : Addr) (m : LM), vs = [.str s, .ref D] ∧ LRd H D m ∧ tot m ≤ 300 ∧
  ∀ (p : Addr) (fd : List Str) (H' : Hp), Same H H' → H p = none → H' p = some (.dK (nkvs fd)) → fd.Nodup → (∀ x, x ∈ fd ↔ Rch (lof m) s x) → Q (.ref p) H'
theorem nkvs_has (l : List Str) (s : Str) : (valV (nkvs l) (Sum.inr s)).isSome = decide (s ∈ l) := by
  induction l with
  | nil => rfl
  | cons a r ih =>
    show (valV ((Sum.inr a, V.bl true) :: nkvs r) (Sum.inr s)).isSome = _
    by_cases e : a = s
    · subst e
      rw [valV_pos rfl]
      simp
    · rw [valV_neg (fun z => e (Sum.inr.inj z)), ih]
      have : (s ∈ a :: r) ↔ s ∈ r := by
        rw [List.mem_cons]
        exact ⟨fun h => h.elim (fun z => absurd z.symm e) id, .inr⟩
      exact (decide_eq_decide.mpr this).symm
section
variable {P : Program} {w : World} {K : PySem.W.Frag} {mg : Str → Option Value} {base : Heap} {f : Addr} {fd : FuncData}
/-- what d.get(s, []) leaves, [] being new at e -/
theorem get_at {H H1 : Hp} {D e : Addr} {m : LM} (h : LRd H D m) (s1 : Same H H1) (h1 : H1 e = some (.lst [])) (s : Str) :
    ∃ b, ((lkp m s).map fun p => V.ref p.1).getD (.ref e) = .ref b ∧ H1 b = some (.lst ((lof m s).map V.str)) := by
  unfold lof
  cases q : lkp m s with
  | none => exact ⟨e, rfl, h1⟩
  | some p => exact ⟨p.1, rfl, s1 _ _ (h.l _ (lkp_mem q))⟩
theorem ok_reached (F : Fun K "reached" "reached" s_reached f fd) (zl : mg "list" = none) : FnOk P w K mg base CX0 1 f fd ["name", "leans"] spReached := by
  refine F.ok sc_reached (fun vs H Q E h => ?_) (fun cdv A outer s H vs Q E hr h => ?_)
  · obtain ⟨s, D, m, rfl, _⟩ := h
    rfl
  obtain ⟨s0, D, m, rfl, hL, ht, q⟩ := h
  have nd := sc_reached.nd
  refine ⟨_, pss_cons (ps_set (i := 2) nd rfl (.inl rfl) pe_dnewK)
    (pss_cons (ps_set (i := 3) nd rfl (.inl rfl) (pe_callTy call_list_of (by rfl) zl (by decide +kernel) (pa_cons (pe_dget2 (hu_of hr) (pv 1) (pv 0) (pe_lst pa_nil) ⟨rfl, rfl, rfl, rfl⟩) pa_nil)))
    (pss_cons (ps_while PassesOwn.never (pt_truth (pv 3) (by intro _; rfl))
      (pss_cons (ps_set (i := 4) nd rfl (.inl rfl) (pe_bm0 PySem.F.plainAttrs_list PySem.F.slot_list_pop PySem.F.type_list_pop mt_pop (pv 3)))
      (pss_one (ps_if (pt_cmp (pc_dnotin (hu_of hr) (pv 4) (pv 2)))
        (pss_cons (ps_dput (hu_of hr) (pv 2) (pv 4) pe_bl rfl)
        (pss_one (ps_expr (pe_bm PySem.F.plainAttrs_list PySem.F.slot_list_extend PySem.F.type_list_extend mt_extend (pv 3) (pa_cons (pe_dget2 (hu_of hr) (pv 1) (pv 4) (pe_lst pa_nil) ⟨rfl, rfl, rfl, rfl⟩) pa_nil))))) pss_nil))))
    (pss_one (ps_ret (pv 2))))), ?_⟩
  refine fun pf hf => ?_
  have s1 := same_new hf (.dK [])
  have L1 := hL.mono s1
  refine ⟨_, rfl, D, rfl, .inl ⟨_, L1.d⟩, _, rfl, (by show 0 ≤ sizeLine; decide), fun e0 he0 => ?_⟩
  have s2 := same_new he0 (.lst [])
  refine ⟨_, .inl ⟨_, Sum.inr s0, (L1.mono s2).d, rfl, rfl⟩, ?_⟩
  rw [kvL_val]
  obtain ⟨b0, eb0, hb0⟩ := get_at L1 s2 upd_same s0
  rw [eb0]
  refine ⟨b0, _, rfl, .inl (SqL.of hb0), fun pw hw => ?_⟩
  have s3 := same_new hw (.lst ((lof m s0).map V.str))
  have s13 := (s1.trans s2).trans s3
  have hwf : pf ≠ pw := ne_of_none (s2 _ _ upd_same) hw
  have hw0 : H pw = none := (s1.trans s2).free hw
  refine ⟨fun n σ H' => ∃ (fd wt : List Str) (v4 : Option V), σ = [some (.str s0), some (.ref D), some (.ref pf), some (.ref pw), v4] ∧ n = seekM m fd wt ∧ Same H H' ∧ H' pf = some (.dK (nkvs fd)) ∧ H' pw = some (.lst (wt.map V.str)) ∧ Seek m s0 fd wt,
    ⟨_, [], lof m s0, none, rfl, rfl, s13, (by rw [upd_ne hwf, upd_ne (ne_of_none upd_same he0)]; exact upd_same), upd_same, Seek.start m s0⟩, ?_⟩
  · rintro n σ H1 ⟨fd, wt, v4, rfl, rfl, sH, ef, ew, sk⟩
    refine ⟨_, rfl, _, .inl ⟨_, SqL.of ew, rfl⟩, ?_⟩
    cases hwt : wt with
    | nil =>
      subst hwt
      refine iteF ?_
      exact ⟨_, rfl, q pf fd H1 sH hf ef sk.nd sk.done⟩
    | cons x0 r0 =>
      rw [← hwt]
      have hlen : 0 < wt.length := by rw [hwt]; exact Nat.succ_pos _
      obtain ⟨o, ho⟩ : ∃ o, wt[wt.length - 1]? = some o := ⟨_, List.getElem?_eq_getElem (by omega)⟩
      have fl := sk.fl
      have wl := sk.ln
      have wl2 : (fd.length + 1) * tot m ≤ 301 * 300 := Nat.mul_le_mul (by omega) ht
      rw [show (!(wt.map V.str).isEmpty) = true by rw [hwt]; rfl, if_pos rfl]
      refine ⟨fun σ' H' => ∃ (fd' wt' : List Str), σ' = [some (.str s0), some (.ref D), some (.ref pf), some (.ref pw), some (.str o)] ∧ seekM m fd' wt' < seekM m fd wt ∧ Same H H' ∧ H' pf = some (.dK (nkvs fd')) ∧ H' pw = some (.lst (wt'.map V.str)) ∧ Seek m s0 fd' wt', ?_, ?_⟩
      · rintro σ' H' ⟨fd', wt', rfl, lt, a1, a2, a3, a4⟩
        exact ⟨_, lt, fd', wt', _, rfl, rfl, a1, a2, a3, a4⟩
      refine ⟨_, rfl, .inl ⟨rfl, _, SqL.of ew⟩, pw, _, .str o, rfl, rfl, ew, (by rw [List.length_map, List.getElem?_map, ho]; rfl), ?_⟩
      have ef1 : (upd H1 pw (.lst (wt.map V.str).dropLast)) pf = some (.dK (nkvs fd)) := by rw [upd_ne hwf]; exact ef
      refine ⟨_, rfl, _, rfl, pf, _, rfl, DGet.k (k := Sum.inr o) ef1, _, rfl, ?_⟩
      rw [nkvs_has, ← List.map_dropLast]
      by_cases c : o ∈ fd
      · rw [decide_eq_true c]
        exact iteF ⟨fd, wt.dropLast, rfl, seekM_skip ho, same_upd sH hw0 _, (by rw [upd_ne hwf]; exact ef), upd_same, sk.skip ho c⟩
      · rw [decide_eq_false c]
        refine iteT ?_
        refine ⟨_, rfl, _, rfl, pf, _, rfl, DPut.k (k := Sum.inr o) (by rw [upd_ne hwf]; exact ef) (Nat.lt_of_le_of_lt (by unfold nkvs; rw [List.length_map]; omega : (nkvs fd).length ≤ 1000) (by decide)), ?_⟩
        rw [nkvs_put]
        have ea : addN fd o = fd ++ [o] := by unfold addN; rw [if_neg c]
        rw [ea]
        have sA := same_upd (same_upd sH hw0 (.lst (wt.dropLast.map V.str))) hf (.dK (nkvs (fd ++ [o])))
        have LA1 := hL.mono sA
        refine ⟨_, rfl, .inl ⟨rfl, _, SqL.of (by rw [upd_ne hwf.symm]; exact upd_same)⟩, ?_⟩
        refine ⟨_, rfl, D, rfl, .inl ⟨_, LA1.d⟩, _, rfl, (by show 0 ≤ sizeLine; decide), fun e1 he1 => ?_⟩
        have s5 := same_new he1 (.lst [])
        refine ⟨_, .inl ⟨_, Sum.inr o, (LA1.mono s5).d, rfl, rfl⟩, ?_⟩
        rw [kvL_val]
        obtain ⟨b1, eb1, hb1⟩ := get_at LA1 s5 upd_same o
        rw [eb1]
        have ew5 := s5 pw _ (by rw [upd_ne hwf.symm]; exact upd_same)
        have ef5 := s5 pf _ upd_same
        have lo := lof_len m o
        refine ⟨pw, b1, _, _, rfl, rfl, ew5, hb1, ?_, ?_⟩
        · rw [List.length_map, List.length_map, List.length_dropLast]
          exact big (by omega)
        rw [← List.map_append]
        exact ⟨fd ++ [o], wt.dropLast ++ lof m o, rfl, seekM_step sk ho c, same_upd (sA.trans s5) hw0 _, (by rw [upd_ne hwf]; exact ef5), upd_same, sk.step ho c⟩
end
end Aw

namespace Aw
open PySem L2
/-! ### where names lead: led_to and the law -/
def spLeans (K : PySem.W.Frag) : Sp := fun vs H Q _ => ∃ (a : Addr) (ns : List Int) (l : Addr) (nms : List Str), vs = [.ref a, .ref l] ∧ SqL K H a (ns.map V.int) ∧ ns.length ≤ 63 ∧ H l = some (.lst (nms.map V.str)) ∧ 1 ≤ nms.length ∧ nms.length ≤ 20 ∧
  ∀ (D : Addr) (m : LM) (H' : Hp), Same H H' → H D = none → LAt H' D m → (keysM m).Nodup → tot m = ns.length → (∀ p ∈ m, p.1 ∈ nms ∧ ∀ x ∈ p.2.2, x ∈ nms) → Q (.ref D) H'
theorem nkvs_fst (l : List Str) : (nkvs l).map (·.1) = l.map Sum.inr := by
  unfold nkvs
  rw [List.map_map]
  rfl
theorem at_mod {nms : List Str} (h : 1 ≤ nms.length) (c : Int) : ∃ s, s ∈ nms ∧ atI (nms.map V.str) (c % ((nms.map V.str).length : Nat)) = some (.str s) := by
  rw [List.length_map]
  have h0 : 0 ≤ c % (nms.length : Int) := Int.emod_nonneg _ (by omega)
  have h1 : c % (nms.length : Int) < nms.length := Int.emod_lt_of_pos _ (by omega)
  have hk : (c % (nms.length : Int)).toNat < nms.length := by omega
  refine ⟨nms[(c % (nms.length : Int)).toNat], List.getElem_mem hk, ?_⟩
  have q : atI (nms.map V.str) (((c % (nms.length : Int)).toNat : Nat) : Int) = some (.str nms[(c % (nms.length : Int)).toNat]) := atI_nat (by rw [List.getElem?_map, List.getElem?_eq_getElem hk]; rfl)
  rwa [show (((c % (nms.length : Int)).toNat : Nat) : Int) = c % (nms.length : Int) by omega] at q
section
variable {P : Program} {w : World} {K : PySem.W.Frag} {mg : Str → Option Value} {base : Heap} {f : Addr} {fd : FuncData}
theorem ok_leans (F : Fun K "_law_leans" "_law_leans" s_law_leans f fd) (zl : mg "len" = none) : FnOk P w K mg base CX0 1 f fd ["_law_cells", "_law_names_here"] (spLeans K) := by
  refine F.ok sc_law_leans (fun vs H Q E h => ?_) (fun cdv A outer s H vs Q E hr h => ?_)
  · obtain ⟨a, ns, l, nms, rfl, _⟩ := h
    rfl
  obtain ⟨a, ns, l, nms, rfl, hS, h63, hl, h1, h20, q⟩ := h
  have nd := sc_law_leans.nd
  refine ⟨_, pss_cons (ps_set (i := 2) nd rfl (.inl rfl) pe_dnewK)
    (pss_cons (ps_for PassesOwn.never rfl (pi_list (pv 0)) (pg_name (i := 3) nd rfl (.inl rfl))
      (pss_cons (ps_set (i := 4) nd rfl (.inl rfl) (pe_ix ix_list (pv 1) (pe_op op_mod (pv 3) (pe_callB call_len_seq (by rfl) zl PySem.boot_len (pa_cons (pv 1) pa_nil))) (fun _ _ => rfl)))
      (pss_one (ps_dput (hu_of hr) (pv 2) (pv 4) (pe_op op_cat (pe_dget2 (hu_of hr) (pv 2) (pv 4) (pe_lst pa_nil) ⟨rfl, rfl, rfl, rfl⟩)
        (pe_lst (pa_cons (pe_ix ix_list (pv 1) (pe_op op_mod (pe_op op_fdiv (pv 3) pe_int) (pe_callB call_len_seq (by rfl) zl PySem.boot_len (pa_cons (pv 1) pa_nil))) (fun _ _ => rfl)) pa_nil))) rfl))))
    (pss_one (ps_ret (pv 2)))), ?_⟩
  refine fun D hD => ?_
  have lpos : (0 : Int) < (((nms.map V.str).length : Nat) : Int) := by rw [List.length_map]; omega
  refine ⟨_, rfl, a, rfl, ⟨_, (same_new hD _).seq hS⟩, for_list (K := K) (a := a) (xs := ns.map V.int) (fun i σ H' => ∃ (v3 v4 : Option V) (m : LM), σ = [some (.ref a), some (.ref l), some (.ref D), v3, v4] ∧ Same H H' ∧ LAt H' D m ∧ (keysM m).Nodup ∧ tot m = i ∧ ∀ p ∈ m, p.1 ∈ nms ∧ ∀ x ∈ p.2.2, x ∈ nms)
    ⟨none, none, [], rfl, same_new hD _, ⟨upd_same, fun p hp => by cases hp⟩, .nil, rfl, fun p hp => by cases hp⟩ (fun i σ H' _ ⟨_, _, _, _, s, _⟩ => s.seq hS) ?_ ?_⟩
  · rintro i x σ H1 hi ⟨v3, v4, m, rfl, s1, L1, nk, ht, hm⟩
    obtain ⟨c, hc, rfl⟩ : ∃ c, ns[i]? = some c ∧ x = V.int c := by
      rw [List.getElem?_map] at hi
      cases ez : ns[i]? with
      | none => rw [ez] at hi; cases hi
      | some z => rw [ez] at hi; exact ⟨z, rfl, (Option.some.inj hi).symm⟩
    have hin : i < ns.length := (List.getElem?_eq_some_iff.mp hc).1
    have el := s1 _ _ hl
    obtain ⟨s5, hs5, e5⟩ := at_mod h1 c
    obtain ⟨s6, hs6, e6⟩ := at_mod h1 (c / 16)
    refine ⟨_, rfl, _, rfl, _, rfl, l, _, rfl, .inl (SqL.of el), _, _, rfl, rfl, lpos, l, _, _, _, rfl, rfl, SqL.of el, e5, ?_⟩
    refine ⟨_, rfl, D, rfl, .inl ⟨_, .inl L1.d⟩, _, rfl, (by show 0 ≤ sizeLine; decide), fun e0 he0 => ?_⟩
    have s2 := same_new he0 (.lst [])
    refine ⟨_, DGet.k (k := Sum.inr s5) (L1.mono s2).d, ?_⟩
    rw [kvL_val]
    obtain ⟨b0, eb0, hb0⟩ := get_at L1.rd s2 upd_same s5
    rw [eb0]
    have el2 := s2 _ _ el
    refine ⟨_, rfl, _, rfl, _, _, rfl, rfl, ⟨by decide, by decide⟩, _, rfl, l, _, rfl, .inl (SqL.of el2), _, _, rfl, rfl, lpos, l, _, _, _, rfl, rfl, SqL.of el2, e6, (by show 1 ≤ sizeLine; decide), fun b1 hb1 => ?_⟩
    have s3 := same_new hb1 (.lst [.str s6])
    have ll := lof_len m s5
    refine ⟨b0, b1, _, _, rfl, rfl, s3 _ _ hb0, upd_same, ?_, fun p hp => ?_⟩
    · rw [List.length_map]; exact big (by show (lof m s5).length + 1 ≤ 100000; omega)
    have s4 := same_new hp (.lst ((lof m s5).map V.str ++ [.str s6]))
    have S4 := (s2.trans s3).trans s4
    have L4 := L1.mono S4
    have ml : m.length ≤ nms.length := by
      have : (keysM m).length ≤ nms.length := nodup_sub nk fun x hx => by
        obtain ⟨p, hp, e⟩ := List.mem_map.mp hx
        rw [← e]; exact (hm p hp).1
      unfold keysM at this
      rwa [List.length_map] at this
    refine ⟨_, rfl, _, rfl, D, _, rfl, DPut.k (k := Sum.inr s5) L4.d ?_, ?_⟩
    · unfold kvL; rw [List.length_map]; exact small1000 (by omega)
    rw [kvL_put m s5 (p, lof m s5 ++ [s6])]
    have nDp : D ≠ p := ne_of_none ((s2.trans s3) _ _ L1.d) hp
    refine ⟨_, _, putM m s5 (p, lof m s5 ++ [s6]), rfl, same_upd (s1.trans S4) hD _, ⟨upd_same, fun r hr => ?_⟩, nodup_put nk _ _, by rw [tot_put nk]; omega, fun r hr => ?_⟩
    · rcases mem_put hr with z | z
      · rw [upd_ne (ne_of (L4.l r z) L4.d (by intro z; cases z))]
        exact L4.l r z
      · rw [z, upd_ne nDp.symm, List.map_append]
        exact upd_same
    · rcases mem_put hr with z | z
      · exact hm r z
      · rw [z]
        refine ⟨hs5, fun x hx => ?_⟩
        rcases List.mem_append.mp hx with y | y
        · unfold lof at y
          split at y
          · next e => exact (hm _ (lkp_mem e)).2 x y
          · cases y
        · rw [List.mem_singleton.mp y]; exact hs6
  · rintro σ H1 ⟨v3, v4, m, rfl, s1, L1, nk, ht, hm⟩
    rw [List.length_map] at ht
    exact ⟨_, rfl, q D m H1 s1 hD L1 nk ht hm⟩
end
end Aw

namespace Aw
open PySem L2
/-! ### knots: knot_of and knots_of -/
def spKnot : Sp := fun vs H Q _ => ∃ (n : Str) (W B : Addr) (mw mb : LM) (od : Obj), vs = [.str n, .ref W, .ref B] ∧ H W = some (.frz od (.dK (kvL mw))) ∧ (∀ p ∈ mw, H p.2.1 = some (.lst (p.2.2.map V.str))) ∧ LRd H B mb ∧ tot mw ≤ 300 ∧ tot mb ≤ 300 ∧ mw.length ≤ 300 ∧
  ∀ (p : Addr) (H' : Hp), Same H H' → H p = none → H' p = some (.lst ((fil (fun o => o = n ∨ (Rch (lof mw) n o ∧ Rch (lof mb) n o)) (keysM mw)).map V.str)) → Q (.ref p) H'
def spKnots (K : PySem.W.Frag) : Sp := fun vs H Q _ => ∃ (a D : Addr) (ns : List Str) (m : LM), vs = [.ref a, .ref D] ∧ SqL K H a (ns.map V.str) ∧ ns.Nodup ∧ ns.length ≤ 300 ∧ LRd H D m ∧ leanSum m ns ≤ 300 ∧
  ∀ (p : Addr) (ks : List (Addr × List Str)) (H' : Hp), Same H H' → H p = none → H' p = some (.lst (ks.map fun q => V.ref q.1)) → (∀ q ∈ ks, H' q.1 = some (.lst (q.2.map V.str)) ∧ H q.1 = none ∧ q.1 ≠ p) → ks.map (·.2) = knotsM (inner m ns) ns → Q (.ref p) H'
section
variable {P : Program} {w : World} {K : PySem.W.Frag} {mg : Str → Option Value} {base : Heap} {f : Addr} {fd : FuncData}
theorem ok_knot {g : Addr} {gd : FuncData} (F : Fun K "knot_of" "knot_of" s_knot_of f fd) (G : FnOk P w K mg base CX0 1 g gd ["name", "leans"] spReached) (b : Binds K gd ["name", "leans"] []) (kG : PySem.W.keepIn K (.ref g) = true) (m : mg "reached" = some (.ref g)) :
    FnOk P w K mg base CX0 2 f fd ["name", "within", "backward"] spKnot := by
  refine F.ok sc_knot_of (fun vs H Q E h => ?_) (fun cdv A outer s H vs Q E hr h => ?_)
  · obtain ⟨n, W, B, mw, mb, od, rfl, _⟩ := h
    rfl
  obtain ⟨n, W, B, mw, mb, od, rfl, hW, hl, hB, tw, tb, lw, q⟩ := h
  have nd := sc_knot_of.nd
  refine ⟨_, pss_cons (ps_set (i := 3) nd rfl (.inr rfl) (pe_call G hr rfl m kG b .nil pass0 (pa_cons (pv 0) (pa_cons (pv 1) pa_nil))))
    (pss_cons (ps_set (i := 4) nd rfl (.inr rfl) (pe_call G hr rfl m kG b .nil pass0 (pa_cons (pv 0) (pa_cons (pv 2) pa_nil))))
    (pss_one (ps_ret (pe_lc (own := [("other", 5)]) (g := gName 5) rfl nd (pi_keys (pv 1)) (blkOk_by (N := ["name", "within", "backward", "ahead", "behind", "other"]) (sc := defScope s_knot_of) (by decide +kernel)) (fun _ _ _ _ _ => pg_name (i := 5) nd rfl (.inl rfl))
      (fun _ _ _ _ _ => pts_one (PW.pt (pw_or (pt_cmpR op_eq (pv 5) (pv 0) (nomark _)) (pw_or1 (PW.pt (pw_and (pt_cmp (pc_din (hu_of hr) (pv 5) (pv 3))) (pw_and1 (pt_cmp (pc_din (hu_of hr) (pv 5) (pv 4))))))))))
      (fun _ _ _ _ _ => pv 5))))), ?_⟩
  refine ⟨_, rfl, _, rfl, n, W, mw, rfl, ⟨.inr ⟨od, hW⟩, hl⟩, tw, fun a1 fd1 H1 s1 hn1 e1 nd1 x1 => ?_⟩
  refine ⟨_, rfl, _, rfl, n, B, mb, rfl, hB.mono s1, tb, fun a2 fd2 H2 s2 hn2 e2 nd2 x2 => ?_⟩
  have s12 := s1.trans s2
  have e1' := s2 _ _ e1
  refine ⟨_, rfl, W, od, rfl, .inl ⟨_, s12 _ _ hW, fun D hD => ?_⟩⟩
  have hDH := s12.free hD
  obtain ⟨ok, hok⟩ : ∃ ok : Str → Prop, ok = fun o => o = n ∨ (Rch (lof mw) n o ∧ Rch (lof mb) n o) := ⟨_, rfl⟩
  rw [← hok] at q
  refine lc_it walk_keys (fun i H' => Same H2 H' ∧ H' D = some (.lst ((fil ok ((keysM mw).take i)).map V.str))) ⟨same_new hD _, upd_same⟩ (fun i H' _ h => h.1 _ _ (s12 _ _ hW)) ?_ ?_
  · rintro i x HA HB hi ⟨sA, eD⟩ ⟨rfl, k, v, hkv, rfl⟩
    have hi' : i < mw.length := by unfold kvL at hi; rwa [List.length_map] at hi
    have hmi : mw[i]? = some mw[i] := List.getElem?_eq_getElem hi'
    unfold kvL at hkv
    rw [List.getElem?_map, hmi] at hkv
    cases hkv
    have hk : (keysM mw)[i]? = some mw[i].1 := by unfold keysM; rw [List.getElem?_map, hmi]; rfl
    have fl : (fil ok ((keysM mw).take i)).length ≤ 300 := Nat.le_trans (fil_len _ _) (by rw [List.length_take]; omega)
    have yes : ok mw[i].1 → ∃ acc, HB D = some (.lst acc) ∧ acc.length < sizeLine ∧ (Same H2 (upd HB D (.lst (acc ++ [V.str mw[i].1]))) ∧ (upd HB D (.lst (acc ++ [V.str mw[i].1]))) D = some (.lst ((fil ok ((keysM mw).take (i + 1))).map V.str))) := fun h => by
      refine ⟨_, eD, ?_, same_upd sA hD _, ?_⟩
      · rw [List.length_map]; exact small1000 (by omega)
      · rw [upd_same, take_more hk, fil_pos h, List.map_append]
        rfl
    have no : ¬ ok mw[i].1 → Same H2 HB ∧ HB D = some (.lst ((fil ok ((keysM mw).take (i + 1))).map V.str)) := fun h => by
      refine ⟨sA, ?_⟩
      rw [eD, take_more hk, fil_neg h]
    refine ⟨rfl, ?_⟩
    refine ⟨_, rfl, _, rfl, rfl, _, rfl, ?_⟩
    by_cases c : mw[i].1 = n
    · rw [show decide (kV (Sum.inr mw[i].1) = V.str n) = true from decide_eq_true (by rw [c]; rfl)]
      refine iteT ?_
      refine iteT ⟨_, rfl, ?_⟩
      exact yes (by rw [hok]; exact .inl c)
    · rw [show decide (kV (Sum.inr mw[i].1) = V.str n) = false from decide_eq_false (fun z => c (V.str.inj z))]
      refine iteF ⟨_, rfl, _, rfl, a1, _, rfl, DGet.k (k := Sum.inr mw[i].1) (sA _ _ e1'), _, rfl, ?_⟩
      rw [nkvs_has]
      by_cases c1 : mw[i].1 ∈ fd1
      · rw [decide_eq_true c1]
        refine iteT ⟨_, rfl, _, rfl, a2, _, rfl, DGet.k (k := Sum.inr mw[i].1) (sA _ _ e2), _, rfl, ?_⟩
        rw [nkvs_has]
        by_cases c2 : mw[i].1 ∈ fd2
        · rw [decide_eq_true c2]
          refine iteT ⟨_, rfl, ?_⟩
          exact yes (by rw [hok]; exact .inr ⟨(x1 _).mp c1, (x2 _).mp c2⟩)
        · rw [decide_eq_false c2]
          refine iteF ?_
          exact no (by rw [hok]; exact fun z => z.elim c fun z => c2 ((x2 _).mpr z.2))
      · rw [decide_eq_false c1]
        refine iteF ?_
        refine iteF ?_
        exact no (by rw [hok]; exact fun z => z.elim c fun z => c1 ((x1 _).mpr z.1))
  · rintro HA ⟨sA, eD⟩
    have e : (kvL mw).length = (keysM mw).length := by unfold kvL keysM; rw [List.length_map, List.length_map]
    rw [e, List.take_length] at eD
    exact q D HA (s12.trans sA) hDH eD
theorem get_at2 {H H0 H1 : Hp} {D e : Addr} {m : LM} (h0 : LRd H0 D m) (s0 : Same H0 H) (h : LRd H D m) (s1 : Same H H1) (h1 : H1 e = some (.lst [])) (s : Str) :
    ∃ b, ((lkp m s).map fun p => V.ref p.1).getD (.ref e) = .ref b ∧ H1 b = some (.lst ((lof m s).map V.str)) ∧ (b = e ∨ ∃ o, H0 b = some o) := by
  unfold lof
  cases q : lkp m s with
  | none => exact ⟨e, rfl, h1, .inl rfl⟩
  | some p => exact ⟨p.1, rfl, s1 _ _ (h.l _ (lkp_mem q)), .inr ⟨_, h0.l _ (lkp_mem q)⟩⟩
theorem ok_knots {g : Addr} {gd : FuncData} (F : Fun K "knots_of" "knots_of" s_knots_of f fd) (G : FnOk P w K mg base CX0 2 g gd ["name", "within", "backward"] spKnot) (b : Binds K gd ["name", "within", "backward"] []) (kG : PySem.W.keepIn K (.ref g) = true) (mG : mg "knot_of" = some (.ref g)) :
    FnOk P w K mg base CX0 3 f fd ["names", "leans"] (spKnots K) := by
  refine F.ok sc_knots_of (fun vs H Q E h => ?_) (fun cdv A outer s H vs Q E hr h => ?_)
  · obtain ⟨a, D, ns, m, rfl, _⟩ := h
    rfl
  obtain ⟨a, D, ns, m, rfl, hS, hnd, hln, hL, hsum, q⟩ := h
  have nd := sc_knots_of.nd
  refine ⟨_, pss_cons (ps_setDc (j := 3) (ow := [("name", 2)]) (gt := gName 2) rfl nd rfl rfl (sw_dict rfl rfl rfl (by decide +kernel)) (pi_list (pv 0)) (blkOk_by (N := ["names", "leans", "name", "within", "backward", "other", "placed", "knots", "knot", "each"]) (sc := defScope s_knots_of) (by decide +kernel))
      (fun _ _ _ _ _ => pg_name (i := 2) nd rfl (.inl rfl)) (fun _ _ _ _ _ => pts_nil) (fun _ _ _ _ _ => pv 2) (fun _ _ _ _ _ => pe_lst pa_nil))
    (pss_cons (ps_setDc (j := 4) (ow := [("name", 2)]) (gt := gName 2) rfl nd rfl rfl (sw_dict rfl rfl rfl (by decide +kernel)) (pi_list (pv 0)) (blkOk_by (N := ["names", "leans", "name", "within", "backward", "other", "placed", "knots", "knot", "each"]) (sc := defScope s_knots_of) (by decide +kernel))
      (fun _ _ _ _ _ => pg_name (i := 2) nd rfl (.inl rfl)) (fun _ _ _ _ _ => pts_nil) (fun _ _ _ _ _ => pv 2) (fun _ _ _ _ _ => pe_lst pa_nil))
    (pss_cons (ps_for PassesOwn.never rfl (pi_list (pv 0)) (pg_name (i := 2) nd rfl (.inl rfl))
      (pss_one (ps_for PassesOwn.never rfl (pi_list (pe_dget2 (hu_of hr) (pv 1) (pv 2) (pe_lst pa_nil) ⟨rfl, rfl, rfl, rfl⟩)) (pg_name (i := 5) nd rfl (.inl rfl))
        (pss_one (ps_if (pt_cmp (pc_din (hu_of hr) (pv 5) (pv 3)))
          (pss_cons (ps_expr (pe_bm PySem.F.plainAttrs_list PySem.F.slot_list_append PySem.F.type_list_append mt_append (pe_dget (hu_of hr) (pv 3) (pv 2) (fun _ _ => rfl)) (pa_cons (pv 5) pa_nil)))
          (pss_one (ps_expr (pe_bm PySem.F.plainAttrs_list PySem.F.slot_list_append PySem.F.type_list_append mt_append (pe_dget (hu_of hr) (pv 4) (pv 5) (fun _ _ => rfl)) (pa_cons (pv 2) pa_nil))))) pss_nil)))))
    (pss_cons (ps_set (i := 6) nd rfl (.inl rfl) pe_dnewK)
    (pss_cons (ps_set (i := 7) nd rfl (.inl rfl) (pe_lst pa_nil))
    (pss_cons (ps_lock (ps_for PassesOwn.never rfl (pi_keys (pv 3)) (pg_name (i := 2) nd rfl (.inl rfl))
      (pss_one (ps_if (pt_cmp (pc_dnotin (hu_of hr) (pv 2) (pv 6)))
        (pss_cons (ps_set (i := 8) nd rfl (.inl rfl) (pe_call G hr rfl mG kG b .nil pass0 (pa_cons (pv 2) (pa_cons (pv 3) (pa_cons (pv 4) pa_nil)))))
        (pss_cons (ps_expr (pe_bm PySem.F.plainAttrs_list PySem.F.slot_list_append PySem.F.type_list_append mt_append (pv 7) (pa_cons (pv 8) pa_nil)))
        (pss_one (ps_for PassesOwn.never rfl (pi_list (pv 8)) (pg_name (i := 9) nd rfl (.inl rfl)) (pss_one (ps_dput (hu_of hr) (pv 6) (pv 9) pe_bl rfl)))))) pss_nil))))
    (pss_one (ps_ret (pv 7)))))))), ?_⟩
  have mk : ∀ {i : Nat} {x : V}, (ns.map V.str)[i]? = some x → ∃ z, ns[i]? = some z ∧ x = V.str z := fun {i x} hi => by
    rw [List.getElem?_map] at hi
    cases ez : ns[i]? with
    | none => rw [ez] at hi; cases hi
    | some z => rw [ez] at hi; exact ⟨z, rfl, (Option.some.inj hi).symm⟩
  refine ⟨_, rfl, a, rfl, ⟨_, hS⟩, fun W hW => ?_⟩
  refine walk_gen (walk_list (K := K) (a := a) (xs := ns.map V.str)) (fun i H' => Same H H' ∧ ∃ aw : Str → Addr, H' W = some (.dK ((ns.take i).map fun s => ((Sum.inr s : Key), V.ref (aw s)))) ∧ Frsh H (ns.take i) aw ∧ ∀ s ∈ ns.take i, H' (aw s) = some (.lst []) ∧ aw s ≠ W)
    ⟨same_new hW _, fun _ => W, upd_same, ⟨fun s hs => (by cases hs), fun s hs => (by cases hs)⟩, fun s hs => (by cases hs)⟩ (fun i H' _ h => h.1.seq hS) ?_ ?_
  · rintro i x HA HB hi ⟨sA, aw, eW, fr, el⟩ ⟨rfl, hx⟩
    obtain ⟨z, hz, rfl⟩ := mk hx
    refine ⟨rfl, ?_⟩
    refine ⟨_, rfl, (by show 0 ≤ sizeLine; decide), fun e he => ?_⟩
    refine ⟨_, Sum.inr z, rfl, (same_new he _) _ _ eW, ?_, ?_⟩
    · rw [List.length_map, List.length_take]; exact small1000 (by omega)
    · rw [take_more hz]
      exact frsh_step sA hW eW fr el (not_tks hnd hz) he
  rintro HW ⟨sW, aw, eW, frW, elW⟩
  rw [List.length_map, List.take_length] at eW frW elW
  refine ⟨_, rfl, a, rfl, ⟨_, sW.seq hS⟩, fun B hB => ?_⟩
  refine walk_gen (walk_list (K := K) (a := a) (xs := ns.map V.str)) (fun i H' => Same HW H' ∧ ∃ aw : Str → Addr, H' B = some (.dK ((ns.take i).map fun s => ((Sum.inr s : Key), V.ref (aw s)))) ∧ Frsh HW (ns.take i) aw ∧ ∀ s ∈ ns.take i, H' (aw s) = some (.lst []) ∧ aw s ≠ B)
    ⟨same_new hB _, fun _ => B, upd_same, ⟨fun s hs => (by cases hs), fun s hs => (by cases hs)⟩, fun s hs => (by cases hs)⟩ (fun i H' _ h => (sW.trans h.1).seq hS) ?_ ?_
  · rintro i x HA HB hi ⟨sA, aw, eW, fr, el⟩ ⟨rfl, hx⟩
    obtain ⟨z, hz, rfl⟩ := mk hx
    refine ⟨rfl, ?_⟩
    refine ⟨_, rfl, (by show 0 ≤ sizeLine; decide), fun e he => ?_⟩
    refine ⟨_, Sum.inr z, rfl, (same_new he _) _ _ eW, ?_, ?_⟩
    · rw [List.length_map, List.length_take]; exact small1000 (by omega)
    · rw [take_more hz]
      exact frsh_step sA hB eW fr el (not_tks hnd hz) he
  rintro HB ⟨sB, ab, eB, frB, elB⟩
  rw [List.length_map, List.take_length] at eB frB elB
  have sWB := sW.trans sB
  have frB' : Frsh H ns ab := ⟨fun s hs => sW.free (frB.free s hs), frB.inj⟩
  have dis : ∀ s ∈ ns, ∀ t ∈ ns, aw s ≠ ab t := fun s hs t ht => ne_of_none (elW s hs).1 (frB.free t ht)
  have E0 : EdgAt H HB ns W B aw ab [] := ⟨sWB, sB _ _ eW, eB, fun s hs => sB _ _ (elW s hs).1, fun s hs => (elB s hs).1⟩
  refine ⟨_, rfl, a, rfl, ⟨_, sWB.seq hS⟩, for_list (K := K) (a := a) (xs := ns.map V.str) (fun i σ H' => ∃ (v2 v5 : Option V) (E : Eg), σ = [some (.ref a), some (.ref D), v2, some (.ref W), some (.ref B), v5, none, none, none, none] ∧ EdgAt H H' ns W B aw ab E ∧ Edges m ns i 0 E)
    ⟨none, none, [], rfl, E0, Edges.start m ns⟩ (fun i σ H' _ ⟨_, _, _, _, e, _⟩ => e.s.seq hS) ?_ ?_⟩
  · rintro i x σ H1 hi ⟨v2, v5, E1, rfl, A1, G1⟩
    obtain ⟨z, hz, rfl⟩ := mk hi
    have hzn : z ∈ ns := List.mem_of_getElem? hz
    have L1 := hL.mono A1.s
    refine ⟨_, rfl, D, rfl, .inl ⟨_, L1.d⟩, _, rfl, (by show 0 ≤ sizeLine; decide), fun e0 he0 => ?_⟩
    have s2 := same_new he0 (.lst [])
    refine ⟨_, .inl ⟨_, Sum.inr z, (L1.mono s2).d, rfl, rfl⟩, ?_⟩
    rw [kvL_val]
    obtain ⟨b0, eb0, hb0, ho⟩ := get_at2 hL A1.s L1 s2 upd_same z
    rw [eb0]
    have hbH : ∀ s ∈ ns, b0 ≠ aw s ∧ b0 ≠ ab s := fun s hs => by
      rcases ho with c | ⟨o, c⟩
      · rw [c]; exact ⟨(ne_of_none (A1.lw s hs) he0).symm, (ne_of_none (A1.lb s hs) he0).symm⟩
      · exact ⟨ne_of_none c (frW.free s hs), ne_of_none c (frB'.free s hs)⟩
    have A2 := A1.mono s2
    generalize upd H1 e0 (.lst []) = H2 at *
    refine ⟨b0, rfl, ⟨_, SqL.of hb0⟩, for_list (K := K) (a := b0) (xs := (lof m z).map V.str) (fun j σ H' => ∃ (v5 : Option V) (E : Eg), σ = [some (.ref a), some (.ref D), some (.str z), some (.ref W), some (.ref B), v5, none, none, none, none] ∧ EdgAt H H' ns W B aw ab E ∧ Edges m ns i j E ∧ H' b0 = some (.lst ((lof m z).map V.str)))
      ⟨v5, E1, rfl, A2, G1, hb0⟩ (fun j σ H' _ ⟨_, _, _, _, _, e⟩ => SqL.of e) ?_ ?_⟩
    · rintro j x σ H3 hj ⟨v5', E3, rfl, A3, G3, hb3⟩
      obtain ⟨y, hy, rfl⟩ : ∃ y, (lof m z)[j]? = some y ∧ x = V.str y := by
        rw [List.getElem?_map] at hj
        cases ez : (lof m z)[j]? with
        | none => rw [ez] at hj; cases hj
        | some z => rw [ez] at hj; exact ⟨z, rfl, (Option.some.inj hj).symm⟩
      refine ⟨_, rfl, _, rfl, W, _, rfl, DGet.k (k := Sum.inr y) A3.w, _, rfl, ?_⟩
      rw [is_in]
      have el : E3.length ≤ 300 + 300 := by
        have h1 := G3.ln
        have h2 := leanSum_take m ns i
        have h3 : j < (lof m z).length := (List.getElem?_eq_some_iff.mp hy).1
        have h4 : (lof m z).length ≤ leanSum m ns := leanSum_mem hzn
        omega
      by_cases c : y ∈ ns
      · rw [decide_eq_true c]
        refine iteT ?_
        have lw3 : (lwE E3 z).length ≤ E3.length := by unfold lwE; rw [List.length_map]; exact List.length_filter_le _ _
        have lb3 : (lbE E3 y).length ≤ E3.length := by unfold lbE; rw [List.length_map]; exact List.length_filter_le _ _
        have A4 := A3.step frW frB' dis hzn c
        refine ⟨_, rfl, _, rfl, W, .ref (aw z), rfl, by rw [← recv (rv := fun s => V.ref (aw s)) hzn]; exact DGet.k (k := Sum.inr z) A3.w, .inl ⟨rfl, _, SqL.of (A3.lw z hzn)⟩, _, rfl, aw z, _, _, rfl, rfl, A3.lw z hzn, small1000 (by rw [List.length_map]; omega), ?_⟩
        have nWz : W ≠ aw z := ne_of A3.w (A3.lw z hzn) (by intro z; cases z)
        have nBz : B ≠ aw z := ne_of A3.b (A3.lw z hzn) (by intro z; cases z)
        have eb4 : upd H3 (aw z) (.lst ((lwE E3 z).map V.str ++ [.str y])) (ab y) = some (.lst ((lbE E3 y).map V.str)) := by rw [upd_ne (fun q => dis z hzn y c q.symm)]; exact A3.lb y c
        refine ⟨_, rfl, _, rfl, B, .ref (ab y), rfl, by rw [← recv (rv := fun s => V.ref (ab s)) c]; exact DGet.k (k := Sum.inr y) (by rw [upd_ne nBz]; exact A3.b), .inl ⟨rfl, _, SqL.of eb4⟩, _, rfl, ab y, _, _, rfl, rfl, eb4, small1000 (by rw [List.length_map]; omega), ?_⟩
        exact ⟨_, E3 ++ [(z, y)], rfl, A4, G3.step hz hy c, by rw [upd_ne (hbH y c).2, upd_ne (hbH z hzn).1]; exact hb3⟩
      · rw [decide_eq_false c]
        exact iteF ⟨_, E3, rfl, A3, G3.skip hz hy c, hb3⟩
    · rintro σ H3 ⟨v5', E3, rfl, A3, G3, hb3⟩
      rw [List.length_map] at G3
      exact ⟨_, _, E3, rfl, A3, G3.next hz⟩
  rintro σ H5 ⟨v2, v5, E5, rfl, A5, G5⟩
  rw [List.length_map] at G5
  refine fun pp hpp => ?_
  have s6 := same_new hpp (.dK [])
  refine ⟨(by show 0 ≤ sizeLine; decide), fun pk hpk => ?_⟩
  have s7 := same_new hpk (.lst [])
  have s67 := s6.trans s7
  have hpk5 := s6.free hpk
  have npk : pp ≠ pk := ne_of_none upd_same hpk
  obtain ⟨LW, LB⟩ := A5.lat
  have nWp : W ≠ pp := ne_of_none A5.w hpp
  have nWk : W ≠ pk := ne_of_none A5.w hpk5
  have el5 : E5.length ≤ 300 := by
    have h1 := G5.ln
    rw [List.take_length] at h1
    omega
  obtain ⟨wd, hwd⟩ : ∃ wd, wd = ns.map fun s => ((Sum.inr s : Key), V.ref (aw s)) := ⟨_, rfl⟩
  have A5w := A5.w
  rw [← hwd] at A5w
  have wdl : wd.length = ns.length := by rw [hwd, List.length_map]
  refine ⟨W, .dK wd, s67 _ _ A5w, True.intro, fun od => ?_⟩
  refine ⟨_, rfl, W, od, rfl, .inl ⟨wd, upd_same, for_it walk_keys (fun i σ H' => ∃ (v2 v8 v9 : Option V) (pl : List Str) (ks : List (Addr × List Str)), σ = [some (.ref a), some (.ref D), v2, some (.ref W), some (.ref B), v5, some (.ref pp), some (.ref pk), v8, v9] ∧
      H' W = some (.frz od (.dK wd)) ∧ H' pp = some (.dK (nkvs pl)) ∧ H' pk = some (.lst (ks.map fun q => V.ref q.1)) ∧ (∀ q ∈ ks, H' q.1 = some (.lst (q.2.map V.str)) ∧ H q.1 = none ∧ q.1 ≠ pk) ∧ ks.map (·.2) = (ns.take i).foldl (knStep (inner m ns) ns) [] ∧
      (∀ x, x ∈ pl ↔ ∃ k ∈ ks.map (·.2), x ∈ k) ∧ pl.Nodup ∧ (∀ x ∈ pl, x ∈ ns) ∧ ∀ b o, H5 b = some o → b ≠ W → H' b = some o)
    ⟨v2, none, none, [], [], rfl, upd_same, by rw [upd_ne nWp.symm, upd_ne npk]; exact upd_same, by rw [upd_ne nWk.symm]; exact upd_same, fun q hq => (by cases hq), rfl, fun x => ⟨fun h => (by cases h), fun ⟨k, hk, _⟩ => (by cases hk)⟩, .nil, fun x hx => (by cases hx), fun b o hb hn => by rw [upd_ne hn]; exact s67 _ _ hb⟩
    (fun i σ H' _ ⟨_, _, _, _, _, _, e, _⟩ => e) ?_ ?_⟩⟩
  · rintro i x σ HA HX hi ⟨v2', v8, v9, pl, ks, rfl, eW', ep, ek, hq, hks, hpl, hnp, hpn, fr⟩ ⟨rfl, kk, v, hkv, rfl⟩
    rw [wdl] at hi
    have hz : ns[i]? = some ns[i] := List.getElem?_eq_getElem hi
    have hzn : ns[i] ∈ ns := List.getElem_mem hi
    rw [hwd, List.getElem?_map, hz] at hkv
    cases hkv
    have pll : pl.length ≤ ns.length := nodup_sub hnp hpn
    have ksl : ks.length ≤ i := by
      have h1 := knots_len (f := inner m ns) (ns := ns) (ns.take i) []
      rw [← hks, List.length_map, List.length_take] at h1
      simp at h1
      omega
    refine ⟨_, rfl, _, rfl, pp, _, rfl, DGet.k (k := Sum.inr ns[i]) ep, _, rfl, ?_⟩
    rw [nkvs_has]
    by_cases c : ns[i] ∈ pl
    · rw [decide_eq_true c]
      refine iteF ⟨_, v8, v9, pl, ks, rfl, eW', ep, ek, hq, ?_, hpl, hnp, hpn, fr⟩
      rw [foldl_take _ hz, ← hks]
      unfold knStep
      rw [if_pos ((hpl _).mp c)]
    · rw [decide_eq_false c]
      have LWx : ∀ p ∈ fm ns aw (lwE E5), HX p.2.1 = some (.lst (p.2.2.map V.str)) := fun p hp => fr _ _ (LW.l p hp) (ne_of (LW.l p hp) LW.d (by intro z; cases z))
      have nBW : B ≠ W := by
        intro z
        have h1 := hB
        rw [z] at h1
        rw [eW] at h1
        cases h1
      have LBx : LAt HX B (fm ns ab (lbE E5)) := ⟨fr _ _ LB.d nBW, fun p hp => fr _ _ (LB.l p hp) (ne_of (LB.l p hp) LW.d (by intro z; cases z))⟩
      refine iteT ⟨_, rfl, _, rfl, _, rfl, ns[i], W, B, fm ns aw (lwE E5), fm ns ab (lbE E5), od, rfl, by rw [kvL_fm, ← hwd]; exact eW', LWx, LBx.rd, Nat.le_trans (tot_w hnd _ _) el5, Nat.le_trans (tot_b hnd _ _) el5, by unfold fm; rw [List.length_map]; exact hln, fun p H8 s8 hn8 e8 => ?_⟩
      have ekn : fil (fun o => o = ns[i] ∨ (Rch (lof (fm ns aw (lwE E5))) ns[i] o ∧ Rch (lof (fm ns ab (lbE E5))) ns[i] o)) (keysM (fm ns aw (lwE E5))) = knotM (inner m ns) ns ns[i] := by
        rw [keys_fm]
        unfold knotM
        exact fil_congr fun o => kn_iff G5 aw ab ns[i] o
      rw [ekn] at e8
      generalize hkd : knotM (inner m ns) ns ns[i] = kd at *
      have kdn : ∀ x, x ∈ kd ↔ x ∈ ns ∧ Kno (inner m ns) ns[i] x := fun x => by rw [← hkd]; exact mem_knotM
      have kdl : kd.length ≤ ns.length := by rw [← hkd]; exact fil_len _ _
      have npp : pk ≠ p := ne_of_none ek hn8
      have nppp : pp ≠ p := ne_of_none ep hn8
      have ek8 := s8 _ _ ek
      have nkp : pk ≠ pp := npk.symm
      have SH : Same H HX := fun b o hb => fr _ _ (A5.s _ _ hb) (fun z => by rw [z, hW] at hb; cases hb)
      refine ⟨_, rfl, .inl ⟨rfl, _, SqL.of ek8⟩, _, rfl, pk, _, _, rfl, rfl, ek8, small1000 (by rw [List.length_map]; omega), ?_⟩
      refine ⟨_, rfl, p, rfl, ⟨_, SqL.of (by rw [upd_ne npp.symm]; exact e8)⟩, for_list (K := K) (a := p) (xs := kd.map V.str) (fun j σ H' => ∃ (v9 : Option V) (pl' : List Str), σ = [some (.ref a), some (.ref D), some (.str ns[i]), some (.ref W), some (.ref B), v5, some (.ref pp), some (.ref pk), some (.ref p), v9] ∧
          H' pp = some (.dK (nkvs pl')) ∧ (∀ x, x ∈ pl' ↔ x ∈ pl ∨ x ∈ kd.take j) ∧ pl'.Nodup ∧ H' p = some (.lst (kd.map V.str)) ∧ H' pk = some (.lst (ks.map (fun q => V.ref q.1) ++ [.ref p])) ∧ ∀ b o, H8 b = some o → b ≠ pp → b ≠ pk → H' b = some o)
        ⟨v9, pl, rfl, by rw [upd_ne npk]; exact s8 _ _ ep, fun x => by simp, hnp, by rw [upd_ne npp.symm]; exact e8, upd_same, fun b o hb _ h2 => by rw [upd_ne h2]; exact hb⟩ (fun j σ H' _ ⟨_, _, _, _, _, _, e, _⟩ => SqL.of e) ?_ ?_⟩
      · rintro j x σ HY hj ⟨v9', pl', rfl, epY, hplY, hndY, eY, ekY, frY⟩
        obtain ⟨y, hy, rfl⟩ : ∃ y, kd[j]? = some y ∧ x = V.str y := by
          rw [List.getElem?_map] at hj
          cases ez : kd[j]? with
          | none => rw [ez] at hj; cases hj
          | some z => rw [ez] at hj; exact ⟨z, rfl, (Option.some.inj hj).symm⟩
        have pl'l : pl'.length ≤ ns.length := nodup_sub hndY fun x hx => by
          rcases (hplY x).mp hx with z | z
          · exact hpn x z
          · exact ((kdn x).mp (List.mem_of_mem_take z)).1
        refine ⟨_, rfl, _, rfl, pp, _, rfl, DPut.k (k := Sum.inr y) epY (by unfold nkvs; rw [List.length_map]; exact small1000 (by omega)), ?_⟩
        rw [nkvs_put]
        refine ⟨_, addN pl' y, rfl, upd_same, fun x => ?_, addN_nodup hndY y, by rw [upd_ne nppp.symm]; exact eY, by rw [upd_ne nkp]; exact ekY, fun b o hb h1 h2 => by rw [upd_ne h1]; exact frY b o hb h1 h2⟩
        rw [mem_addN, hplY, take_more hy, List.mem_append, List.mem_singleton]
        exact ⟨fun h => h.elim (fun h => h.elim .inl fun h => .inr (.inl h)) fun h => .inr (.inr h), fun h => h.elim (fun h => .inl (.inl h)) fun h => h.elim (fun h => .inl (.inr h)) .inr⟩
      · rintro σ HY ⟨v9', pl', rfl, epY, hplY, hndY, eY, ekY, frY⟩
        rw [List.length_map, List.take_length] at hplY
        have f8 : ∀ b o, HX b = some o → b ≠ pp → b ≠ pk → HY b = some o := fun b o hb h1 h2 => frY b o (s8 _ _ hb) h1 h2
        refine ⟨_, some (.ref p), v9', pl', ks ++ [(p, kd)], rfl, f8 _ _ eW' nWp nWk, epY, by rw [ekY, List.map_append]; rfl, fun q hq' => ?_, ?_, fun x => ?_, hndY, fun x hx => ?_, fun b o hb hn => f8 b o (fr b o hb hn) (ne_of_none hb hpp) (ne_of_none hb hpk5)⟩
        · rcases List.mem_append.mp hq' with z | z
          · obtain ⟨h1, h2, h3⟩ := hq q z
            exact ⟨f8 _ _ h1 (ne_of h1 ep (by intro w; cases w)) h3, h2, h3⟩
          · rw [List.mem_singleton.mp z]
            exact ⟨eY, SH.free hn8, npp.symm⟩
        · rw [foldl_take _ hz, ← hks, List.map_append]
          unfold knStep
          rw [if_neg (fun z => c ((hpl _).mpr z)), hkd]
          rfl
        · rw [hplY, hpl, List.map_append]
          constructor
          · rintro (⟨k, hk, hx⟩ | hx)
            · exact ⟨k, List.mem_append_left _ hk, hx⟩
            · exact ⟨kd, List.mem_append_right _ (List.mem_singleton.mpr rfl), hx⟩
          · rintro ⟨k, hk, hx⟩
            rcases List.mem_append.mp hk with z | z
            · exact .inl ⟨k, z, hx⟩
            · rw [List.mem_singleton.mp z] at hx; exact .inr hx
        · rcases (hplY x).mp hx with z | z
          · exact hpn x z
          · exact ((kdn x).mp z).1
  · rintro σ HA ⟨v2', v8, v9, pl, ks, rfl, eW', ep, ek, hq, hks, hpl, hnp, hpn, fr⟩
    rw [wdl, List.take_length] at hks
    refine ⟨eW', ?_⟩
    have SH : Same H HA := fun b o hb => fr _ _ (A5.s _ _ hb) (fun z => by rw [z, hW] at hb; cases hb)
    refine ⟨_, rfl, q pk ks _ (same_upd SH hW _) (A5.s.free hpk5) (by rw [upd_ne nWk.symm]; exact ek) (fun q' hq' => ?_) hks⟩
    obtain ⟨h1, h2, h3⟩ := hq q' hq'
    exact ⟨by rw [upd_ne (ne_of h1 eW' (by intro w; cases w))]; exact h1, h2, h3⟩
end
end Aw

namespace Aw
open PySem L2
/-! ### the law's ways -/
def spWays : Sp := fun vs H Q _ => ∃ (l D : Addr) (nms : List Str) (m : LM), vs = [.ref l, .ref D] ∧ H l = some (.lst (nms.map V.str)) ∧ nms.Nodup ∧ nms.length ≤ 20 ∧ LRd H D m ∧ tot m ≤ 300 ∧
  ∀ (p : Addr) (aw : Str → Addr) (rw : Str → List Str) (H' : Hp), Same H H' → H p = none → H' p = some (.dK (nms.map fun s => ((Sum.inr s : Key), V.ref (aw s)))) → (∀ s ∈ nms, H' (aw s) = some (.lst ((rw s).map V.str)) ∧ (∀ x, x ∈ rw s ↔ x = s ∨ Rch (inner m nms) s x) ∧ (rw s).length ≤ 20) → Q (.ref p) H'
section
variable {P : Program} {w : World} {K : PySem.W.Frag} {mg : Str → Option Value} {base : Heap} {f : Addr} {fd : FuncData}
theorem ok_ways (F : Fun K "_law_ways" "_law_ways" s_law_ways f fd) (zl : mg "len" = none) : FnOk P w K mg base CX0 1 f fd ["_law_names_here", "_law_leans_here"] spWays := by
  refine F.ok sc_law_ways (fun vs H Q E h => ?_) (fun cdv A outer s H vs Q E hr h => ?_)
  · obtain ⟨l, D, nms, m, rfl, _⟩ := h
    rfl
  obtain ⟨l, D, nms, m, rfl, hl, hnd, h20, hL, ht, q⟩ := h
  have nd := sc_law_ways.nd
  refine ⟨_, pss_cons (ps_set (i := 2) nd rfl (.inl rfl) pe_dnewK)
    (pss_cons (ps_for PassesOwn.never rfl (pi_list (pv 0)) (pg_name (i := 3) nd rfl (.inl rfl))
      (pss_cons (ps_set (i := 4) nd rfl (.inl rfl) (pe_lst (pa_cons (pv 3) pa_nil)))
      (pss_cons (ps_set (i := 5) nd rfl (.inl rfl) pe_int)
      (pss_cons (ps_while PassesOwn.never (pt_cmpR op_lt (pv 5) (pe_callB call_len_seq (by rfl) zl PySem.boot_len (pa_cons (pv 4) pa_nil)) (nomark _))
        (pss_cons (ps_for PassesOwn.never rfl (pi_list (pe_dget2 (hu_of hr) (pv 1) (pe_ix ix_list (pv 4) (pv 5) (fun _ _ => rfl)) (pe_lst pa_nil) ⟨rfl, rfl, rfl, rfl⟩)) (pg_name (i := 6) nd rfl (.inl rfl))
          (pss_one (ps_if (PW.pt (pw_and (pt_cmpR op_in_seq (pv 6) (pv 0) rfl) (pw_and1 (pt_cmpR op_notIn_seq (pv 6) (pv 4) rfl))))
            (pss_one (ps_expr (pe_bm PySem.F.plainAttrs_list PySem.F.slot_list_append PySem.F.type_list_append mt_append (pv 4) (pa_cons (pv 6) pa_nil)))) pss_nil)))
        (pss_one (ps_set (i := 5) nd rfl (.inl rfl) (pe_op op_add (pv 5) pe_int)))))
      (pss_one (ps_dput (hu_of hr) (pv 2) (pv 3) (pv 4) rfl))))))
    (pss_one (ps_ret (pv 2)))), ?_⟩
  refine fun W hW => ?_
  refine ⟨_, rfl, l, rfl, ⟨_, SqL.of (same_new hW _ _ _ hl)⟩, for_list (K := K) (a := l) (xs := nms.map V.str) (fun i σ H' => ∃ (v3 v4 v5 v6 : Option V) (aw : Str → Addr) (rw : Str → List Str), σ = [some (.ref l), some (.ref D), some (.ref W), v3, v4, v5, v6] ∧ Same H H' ∧ H' W = some (.dK ((nms.take i).map fun s => ((Sum.inr s : Key), V.ref (aw s)))) ∧
      ∀ s ∈ nms.take i, H' (aw s) = some (.lst ((rw s).map V.str)) ∧ (∀ x, x ∈ rw s ↔ x = s ∨ Rch (inner m nms) s x) ∧ (rw s).length ≤ 20)
    ⟨none, none, none, none, fun _ => W, fun _ => [], rfl, same_new hW _, upd_same, fun s hs => (by cases hs)⟩ (fun i σ H' _ ⟨_, _, _, _, _, _, _, s, _⟩ => SqL.of (s _ _ hl)) ?_ ?_⟩
  · rintro i x σ H1 hi ⟨v3, v4, v5, v6, aw, rw', rfl, s1, eW, hrow⟩
    obtain ⟨z, hz, rfl⟩ : ∃ z, nms[i]? = some z ∧ x = V.str z := by
      rw [List.getElem?_map] at hi
      cases ez : nms[i]? with
      | none => rw [ez] at hi; cases hi
      | some z => rw [ez] at hi; exact ⟨z, rfl, (Option.some.inj hi).symm⟩
    have hzn : z ∈ nms := List.mem_of_getElem? hz
    refine ⟨_, rfl, (by show 1 ≤ sizeLine; decide), fun r hr' => ?_⟩
    refine ⟨fun n σ H' => ∃ (k : Nat) (row : List Str) (v6 : Option V), σ = [some (.ref l), some (.ref D), some (.ref W), some (.str z), some (.ref r), some (.int k), v6] ∧ n = nms.length - k ∧ Same H1 H' ∧ H' r = some (.lst (row.map V.str)) ∧ Row m nms z row k,
      ⟨_, 0, [z], v6, rfl, rfl, same_new hr' _, upd_same, Row.start m hzn⟩, ?_⟩
    rintro n σ HX ⟨k, row, v6', rfl, rfl, sX, eX, bf⟩
    have rl := bf.len
    refine ⟨_, rfl, _, rfl, r, _, rfl, .inl (SqL.of eX), _, _, rfl, rfl, _, rfl, ?_⟩
    by_cases ck : k < row.length
    · rw [show decide ((k : Int) < (((row.map V.str).length : Nat) : Int)) = true from decide_eq_true (by rw [List.length_map]; omega)]
      refine iteT ?_
      refine ⟨fun σ' H' => ∃ (row' : List Str) (v6' : Option V), σ' = [some (.ref l), some (.ref D), some (.ref W), some (.str z), some (.ref r), some (.int (k + 1 : Nat)), v6'] ∧ Same H1 H' ∧ H' r = some (.lst (row'.map V.str)) ∧ Row m nms z row' (k + 1), ?_, ?_⟩
      · rintro σ' H' ⟨row', v6'', rfl, a1, a2, a3⟩
        exact ⟨nms.length - (k + 1), by omega, _, row', v6'', rfl, rfl, a1, a2, a3⟩
      have LX := hL.mono (s1.trans sX)
      refine ⟨_, rfl, D, rfl, .inl ⟨_, LX.d⟩, _, rfl, _, rfl, r, _, _, .str row[k], rfl, rfl, SqL.of eX, atI_nat (by rw [List.getElem?_map, List.getElem?_eq_getElem ck]; rfl), (by show 0 ≤ sizeLine; decide), fun e7 he7 => ?_⟩
      have s8 := same_new he7 (.lst [])
      refine ⟨_, .inl ⟨_, Sum.inr row[k], (LX.mono s8).d, rfl, rfl⟩, ?_⟩
      rw [kvL_val]
      obtain ⟨b1, eb1, hb1, ho⟩ := get_at2 hL (s1.trans sX) LX s8 upd_same row[k]
      rw [eb1]
      have nb : b1 ≠ r := by
        rcases ho with c | ⟨o, c⟩
        · rw [c]; exact (ne_of_none eX he7).symm
        · exact ne_of_none (s1 _ _ c) hr'
      have sX8 := sX.trans s8
      have eX8 := s8 _ _ eX
      generalize upd HX e7 (.lst []) = HY at *
      have hk : row[k]? = some row[k] := List.getElem?_eq_getElem ck
      refine ⟨b1, rfl, ⟨_, SqL.of hb1⟩, for_list (K := K) (a := b1) (xs := (lof m row[k]).map V.str) (fun i σ H' => ∃ (row' : List Str) (v6' : Option V), σ = [some (.ref l), some (.ref D), some (.ref W), some (.str z), some (.ref r), some (.int k), v6'] ∧ Same H1 H' ∧ H' r = some (.lst (row'.map V.str)) ∧ H' b1 = some (.lst ((lof m row[k]).map V.str)) ∧ Row1 m nms z row row' k (lof m row[k]) i)
        ⟨row, v6', rfl, sX8, eX8, hb1, .start bf _⟩ (fun i σ H' _ ⟨_, _, _, _, _, e, _⟩ => SqL.of e) ?_ ?_⟩
      · rintro i x σ HZ hi ⟨row', v6'', rfl, sZ, eZ, eb, b1z⟩
        obtain ⟨y, hy, rfl⟩ : ∃ y, (lof m row[k])[i]? = some y ∧ x = V.str y := by
          rw [List.getElem?_map] at hi
          cases ez : (lof m row[k])[i]? with
          | none => rw [ez] at hi; cases hi
          | some z => rw [ez] at hi; exact ⟨z, rfl, (Option.some.inj hi).symm⟩
        have nx := b1z.step hk hy
        have ln := b1z.r.len
        refine ⟨_, rfl, _, rfl, l, _, rfl, .inl (SqL.of ((s1.trans sZ) _ _ hl)), rfl, flat_strs _, _, rfl, ?_⟩
        rw [in_strs]
        by_cases c : y ∈ nms
        · rw [decide_eq_true c]
          refine iteT ⟨_, rfl, _, rfl, r, _, rfl, .inl (SqL.of eZ), rfl, flat_strs _, _, rfl, ?_⟩
          rw [in_strs]
          by_cases c2 : y ∈ row'
          · rw [decide_eq_true c2]
            have ea : grow nms row' y = row' := by unfold grow; rw [if_neg (fun h => h.2 c2)]
            rw [ea] at nx
            exact iteF ⟨row', _, rfl, sZ, eZ, eb, nx⟩
          · rw [decide_eq_false c2]
            have ea : grow nms row' y = row' ++ [y] := by unfold grow; rw [if_pos ⟨c, c2⟩]
            rw [ea] at nx
            refine iteT ⟨_, rfl, .inl ⟨rfl, _, SqL.of eZ⟩, _, rfl, r, _, _, rfl, rfl, eZ, small1000 (by rw [List.length_map]; omega), ?_⟩
            exact ⟨row' ++ [y], _, rfl, same_upd sZ hr' _, by rw [upd_same, List.map_append]; rfl, by rw [upd_ne nb]; exact eb, nx⟩
        · rw [decide_eq_false c]
          have ea : grow nms row' y = row' := by unfold grow; rw [if_neg (fun h => c h.1)]
          rw [ea] at nx
          refine iteF ?_
          exact iteF ⟨row', _, rfl, sZ, eZ, eb, nx⟩
      · rintro σ HZ ⟨row', v6'', rfl, sZ, eZ, eb, b1z⟩
        refine ⟨_, rfl, _, _, rfl, rfl, ?_⟩
        exact ⟨row', v6'', rfl, sZ, eZ, b1z.done hk (by rw [List.length_map]; exact Nat.le_refl _)⟩
    · rw [show decide ((k : Int) < (((row.map V.str).length : Nat) : Int)) = false from decide_eq_false (by rw [List.length_map]; omega)]
      refine iteF ?_
      have dn := bf.done ck
      have eWX := sX _ _ eW
      refine ⟨_, rfl, _, rfl, _, rfl, W, _, rfl, DPut.k (k := Sum.inr z) eWX (by rw [List.length_map, List.length_take]; exact small1000 (by omega)), ?_⟩
      have nz := not_tks hnd hz
      have nWr : W ≠ r := ne_of_none eW hr'
      obtain ⟨av, hav⟩ : ∃ av : Str → Addr, ∀ s, av s = if s = z then r else aw s := ⟨_, fun _ => rfl⟩
      obtain ⟨rv, hrv⟩ : ∃ rv : Str → List Str, ∀ s, rv s = if s = z then row else rw' s := ⟨_, fun _ => rfl⟩
      refine ⟨_, _, _, _, av, rv, rfl, same_upd (s1.trans sX) hW _, ?_, fun s hs => ?_⟩
      · rw [upd_same, putK_new _ (valn nz), take_more hz, List.map_append]
        congr 2
        congr 1
        · refine List.map_congr_left fun s hs => ?_
          rw [hav, if_neg (fun c => nz (by rw [← c]; exact hs))]
        · show [((Sum.inr z : Key), V.ref r)] = [((Sum.inr z : Key), V.ref (av z))]
          rw [hav, if_pos rfl]
      · rw [take_more hz] at hs
        by_cases c : s = z
        · rw [hav, hrv, if_pos c, if_pos c, upd_ne nWr.symm, c]
          exact ⟨eX, dn, by omega⟩
        · rw [hav, hrv, if_neg c, if_neg c]
          obtain ⟨h1, h2, h3⟩ := hrow s ((List.mem_append.mp hs).resolve_right fun q => c (List.mem_singleton.mp q))
          rw [upd_ne (ne_of h1 eW (by intro w; cases w))]
          exact ⟨sX _ _ h1, h2, h3⟩
  · rintro σ H1 ⟨v3, v4, v5, v6, aw, rw', rfl, s1, eW, hrow⟩
    rw [List.length_map, List.take_length] at eW hrow
    exact ⟨_, rfl, q W aw rw' H1 s1 hW eW hrow⟩
end
end Aw

namespace Aw
open PySem L2
def spLaw (K : PySem.W.Frag) : Sp := fun vs H Q _ => ∃ (a : Addr) (ns : List Int), vs = [.ref a] ∧ SqL K H a (ns.map V.int) ∧ ns.length ≤ 63 ∧ ∀ H', Q (.bl true) H'
/-- a def of the top as it is called -/
structure Df (P : Program) (w : World) (K : PySem.W.Frag) (mg : Str → Option Value) (base : Heap) (CX : CXT) (k : Nat) (x : Str) (ps : List Str) (sp : Sp) (f : Addr) (fd : FuncData) : Prop where
  ok : FnOk P w K mg base CX k f fd ps sp
  b : Binds K fd ps []
  k : PySem.W.keepIn K (.ref f) = true
  m : mg x = some (.ref f)
theorem cut_int (ns : List Int) (lo : Option Int) : ∃ ns' : List Int, cutV (ns.map V.int) lo none = ns'.map V.int ∧ ns'.length ≤ ns.length := by
  unfold cutV
  refine ⟨(ns.drop (HT.sIx (ns.map V.int).length 0 lo)).take (HT.sIx (ns.map V.int).length (ns.map V.int).length none - HT.sIx (ns.map V.int).length 0 lo), ?_, ?_⟩
  · rw [List.map_take, List.map_drop]
  · rw [List.length_take, List.length_drop]; omega
end Aw

namespace Aw
open PySem L2
def spNamesU : Sp := fun vs H Q _ => ∃ (c m : Int), vs = [.int c, .int m] ∧ 0 ≤ m ∧ m ≤ 26 ∧ ∀ (l : Addr) (H' : Hp) (nms : List Str), Same H H' → H l = none → H' l = some (.lst (nms.map V.str)) → (nms.length : Int) = m → (∀ s ∈ nms, NameOk s) → nms.Nodup → Q (.ref l) H'
theorem let_inj {x y : Int} (x0 : 0 ≤ x) (x1 : x < 26) (y0 : 0 ≤ y) (y1 : y < 26) (e : atI LET x = atI LET y) : x = y := by
  have nd : LET.Nodup := by decide +kernel
  have ll : LET.length = 26 := by decide +kernel
  have a1 : atI LET ((x.toNat : Nat) : Int) = some LET[x.toNat] := atI_nat (List.getElem?_eq_getElem (by omega))
  have a2 : atI LET ((y.toNat : Nat) : Int) = some LET[y.toNat] := atI_nat (List.getElem?_eq_getElem (by omega))
  rw [show ((x.toNat : Nat) : Int) = x by omega] at a1
  rw [show ((y.toNat : Nat) : Int) = y by omega] at a2
  rw [a1, a2] at e
  have := (List.getElem_inj (h₀ := by omega) (h₁ := by omega) nd).mp (Option.some.inj e)
  omega
theorem names_nodup {nms : List Str} {A : Nat} {B : Int} (len : nms.length ≤ 26) (h : ∀ (i' : Nat) (s : Str), nms[i']? = some s → s.cps.toList[A]? = atI LET ((B + (i' : Int)) % 26)) : nms.Nodup := by
  refine List.pairwise_iff_getElem.mpr fun i j hi' hj hij e => ?_
  have hi : nms[i]? = some nms[i] := List.getElem?_eq_getElem hi'
  have hj2 : nms[j]? = some nms[i] := by rw [e]; exact List.getElem?_eq_getElem hj
  have a := h i _ hi
  have b := h j _ hj2
  rw [a] at b
  have := let_inj (Int.emod_nonneg _ (by decide)) (Int.emod_lt_of_pos _ (by decide)) (Int.emod_nonneg _ (by decide)) (Int.emod_lt_of_pos _ (by decide)) b
  omega
section
variable {P : Program} {w : World} {K : PySem.W.Frag} {mg : Str → Option Value} {base : Heap} {f : Addr} {fd : FuncData}
theorem ok_namesU (F : Fun K "_law_names" "_law_names" s_law_names f fd) (T : TxtL K mg) : FnOk P w K mg base CX0 1 f fd ["_law_cell", "_law_many"] spNamesU := by
  refine F.ok sc_law_names (fun vs H Q E h => ?_) (fun cdv A outer s H vs Q E hr h => ?_)
  · obtain ⟨c, m, rfl, _⟩ := h
    rfl
  obtain ⟨c, m, rfl, m0, m1, q⟩ := h
  have nd := sc_law_names.nd
  refine ⟨_, pss_cons (ps_set (i := 2) nd rfl (.inl rfl) pe_str)
    (pss_cons (ps_set (i := 3) nd rfl (.inl rfl) (pe_op op_add pe_int (pe_op op_mod (pv 0) pe_int)))
    (pss_cons (ps_set (i := 4) nd rfl (.inl rfl) (pe_op op_mod (pe_op op_fdiv (pv 0) pe_int) (pv 3)))
    (pss_cons (ps_set (i := 5) nd rfl (.inl rfl) (pe_lst pa_nil))
    (pss_cons (ps_for PassesOwn.never rfl (pi_range1 rfl T.range (pa_cons (pv 1) pa_nil)) (pg_name (i := 6) nd rfl (.inl rfl))
      (pss_cons (ps_set (i := 7) nd rfl (.inl rfl) pe_str)
      (pss_cons (ps_for PassesOwn.never rfl (pi_range1 rfl T.range (pa_cons (pv 3) pa_nil)) (pg_name (i := 8) nd rfl (.inl rfl))
        (pss_cons (ps_set (i := 9) nd rfl (.inl rfl) (pe_op op_add (pe_op op_mod (pe_op op_fdiv (pv 0) pe_int) pe_int) (pe_op op_mul pe_int (pv 8))))
        (pss_cons (ps_if (pt_cmpR op_eq (pv 8) (pv 4) (nomark _)) (pss_one (ps_set (i := 9) nd rfl (.inl rfl) (pe_op op_add (pv 9) (pv 6)))) pss_nil)
        (pss_one (ps_set (i := 7) nd rfl (.inl rfl) (pe_op op_add_str (pv 7) (pe_ix ix_str (pv 2) (pe_op op_mod (pv 9) pe_int) (fun _ _ => rfl))))))))
      (pss_one (ps_expr (pe_bm PySem.F.plainAttrs_list PySem.F.slot_list_append PySem.F.type_list_append mt_append (pv 5) (pa_cons (pv 7) pa_nil)))))))
    (pss_one (ps_ret (pv 5))))))), ?_⟩
  have hs0 : 0 ≤ c % 6 := Int.emod_nonneg _ (by decide)
  have hs1 : c % 6 < 6 := Int.emod_lt_of_pos _ (by decide)
  refine ⟨_, rfl, _, _, rfl, rfl, (by show (0 : Int) < 6; decide), _, _, rfl, rfl, ?_⟩
  refine ⟨_, rfl, _, _, rfl, rfl, ⟨by decide, by decide⟩, _, rfl, _, _, rfl, rfl, (by show 0 < 1 + c % 6; omega), ?_⟩
  refine ⟨(by show 0 ≤ sizeLine; decide), fun l hl => ?_⟩
  refine ⟨_, rfl, m, rfl, by omega, by omega, ?_⟩
  refine for_range (lo := 0) (n := m.toNat) (fun i σ H' => ∃ (nms : List Str) (v6 v7 v8 v9 : Option V), σ = [some (.int c), some (.int m), some (.str "abcdefghijklmnopqrstuvwxyz"), some (.int (1 + c % 6)), some (.int (c / 6 % (1 + c % 6))), some (.ref l), v6, v7, v8, v9] ∧
    Same H H' ∧ H' l = some (.lst (nms.map V.str)) ∧ nms.length = i ∧ (∀ s ∈ nms, NameOk s) ∧ ∀ (i' : Nat) (s : Str), nms[i']? = some s → s.cps.toList[(c / 6 % (1 + c % 6)).toNat]? = atI LET ((c / 36 % 26 + 5 * (c / 6 % (1 + c % 6)) + (i' : Int)) % 26)) ⟨[], none, none, none, none, rfl, same_new hl _, upd_same, rfl, (fun s hs => by cases hs), fun i' s h => by simp at h⟩ ?_ ?_
  · rintro i σ H1 hi ⟨nms, v6, v7, v8, v9, rfl, s1, e1, hlen, hok, hat⟩
    refine ⟨_, rfl, 1 + c % 6, rfl, by omega, by omega, ?_⟩
    refine for_range (lo := 0) (n := (1 + c % 6).toNat) (fun j σ H' => ∃ (z : Str) (v8 v9 : Option V), σ = [some (.int c), some (.int m), some (.str "abcdefghijklmnopqrstuvwxyz"), some (.int (1 + c % 6)), some (.int (c / 6 % (1 + c % 6))), some (.ref l), some (.int (0 + (i : Int))), some (.str z), v8, v9] ∧
      H' = H1 ∧ z.length = j ∧ (∀ x ∈ z.cps.toList, x ∈ LET) ∧ (c / 6 % (1 + c % 6) < (j : Int) → z.cps.toList[(c / 6 % (1 + c % 6)).toNat]? = atI LET ((c / 36 % 26 + 5 * (c / 6 % (1 + c % 6)) + (i : Int)) % 26))) ⟨Str.empty, _, _, rfl, rfl, rfl, (fun x hx => by cases hx), fun h => absurd h (by have := Int.emod_nonneg (c / 6) (show 1 + c % 6 ≠ 0 by omega); omega)⟩ ?_ ?_
    · rintro j σ H2 hj ⟨z, v8, v9, rfl, rfl, hz, hl', hza⟩
      have zl : z.cps.toList.length = z.length := by rw [Array.length_toList]; rfl
      have ap : ∀ ch : Nat, (z ++ sg1 ch).cps.toList = z.cps.toList ++ [ch] := fun ch => by show (z.cps ++ #[ch]).toList = _; rw [Array.toList_append]
      refine ⟨_, rfl, _, _, rfl, rfl, ⟨by decide, by decide⟩, _, _, rfl, rfl, (by show (0 : Int) < 26; decide), _, rfl, _, _, rfl, rfl, .inl ⟨by decide, by decide⟩, _, _, rfl, rfl, ?_⟩
      refine ⟨_, rfl, _, rfl, rfl, _, rfl, ?_⟩
      have hz6 : (j : Int) < 6 := by omega
      refine ite2 (fun hd => ?_) (fun hd => ?_)
      · refine ⟨_, rfl, _, rfl, _, _, rfl, rfl, ?_⟩
        obtain ⟨ch, hc, ec⟩ := let_at (n := (c / 36 % 26 + 5 * (0 + (j : Int)) + (0 + (i : Int))) % 26) (Int.emod_nonneg _ (by decide)) (Int.emod_lt_of_pos _ (by decide))
        refine ⟨_, rfl, _, rfl, _, rfl, _, _, rfl, rfl, (by show (0 : Int) < 26; decide), _, _, ch, rfl, rfl, (by decide +kernel), ec, z, sg1 ch, rfl, rfl, big (by rw [len_sg1]; omega), ?_⟩
        have ej : (0 + (j : Int)) = c / 6 % (1 + c % 6) := V.int.inj (of_decide_eq_true hd)
        refine ⟨z ++ sg1 ch, _, _, rfl, rfl, by rw [len_app, len_sg1, hz], mem_app1 hl' hc, fun _ => ?_⟩
        rw [ap, ← ej, List.getElem?_append_right (by rw [zl, hz]; omega), show ((0 + (j : Int)).toNat - z.cps.toList.length) = 0 by rw [zl, hz]; omega]
        show some ch = _
        rw [← ec]
        show atI LET _ = atI LET _
        rw [show (0 + (i : Int)) = (i : Int) by omega]
      · obtain ⟨ch, hc, ec⟩ := let_at (n := (c / 36 % 26 + 5 * (0 + (j : Int))) % 26) (Int.emod_nonneg _ (by decide)) (Int.emod_lt_of_pos _ (by decide))
        refine ⟨_, rfl, _, rfl, _, rfl, _, _, rfl, rfl, (by show (0 : Int) < 26; decide), _, _, ch, rfl, rfl, (by decide +kernel), ec, z, sg1 ch, rfl, rfl, big (by rw [len_sg1]; omega), ?_⟩
        have ej : (0 + (j : Int)) ≠ c / 6 % (1 + c % 6) := fun e => hd (decide_eq_true (by rw [e]))
        have a0 := Int.emod_nonneg (c / 6) (show 1 + c % 6 ≠ 0 by omega)
        refine ⟨z ++ sg1 ch, _, _, rfl, rfl, by rw [len_app, len_sg1, hz], mem_app1 hl' hc, fun h => ?_⟩
        rw [ap, List.getElem?_append_left (by rw [zl, hz]; omega)]
        exact hza (by omega)
    · rintro σ H2 ⟨z, v8, v9, rfl, rfl, hz, hl', hza⟩
      refine ⟨_, rfl, .inl ⟨rfl, _, SqL.of e1⟩, _, rfl, l, _, _, rfl, rfl, e1, small1000 (by rw [List.length_map]; omega), ?_⟩
      refine ⟨nms ++ [z], _, _, _, _, rfl, same_upd s1 hl _, (by rw [upd_same, List.map_append]; rfl), by rw [List.length_append, List.length_singleton, hlen], fun s hs => ?_, fun i' s hs => ?_⟩
      · rcases List.mem_append.mp hs with q | q
        · exact hok s q
        · rw [List.mem_singleton.mp q]
          exact nameOk_of (by omega) (by omega) hl'
      · by_cases lt : i' < nms.length
        · rw [List.getElem?_append_left lt] at hs
          exact hat i' s hs
        · rw [List.getElem?_append_right (by omega)] at hs
          have e0 : i' = nms.length := by
            have := (List.getElem?_eq_some_iff.mp hs).1
            simp at this
            omega
          subst e0
          rw [Nat.sub_self] at hs
          cases hs
          rw [hlen]
          refine hza ?_
          have a1 := Int.emod_lt_of_pos (c / 6) (show 0 < 1 + c % 6 by omega)
          omega
  · rintro σ H1 ⟨nms, v6, v7, v8, v9, rfl, s1, e1, hlen, hok, hat⟩
    exact ⟨_, rfl, q l H1 nms s1 hl e1 (by omega) hok (names_nodup (by omega) hat)⟩
end
end Aw

namespace Aw
open PySem L2
section
variable {P : Program} {w : World} {K : PySem.W.Frag} {mg : Str → Option Value} {base : Heap} {f : Addr} {fd : FuncData}
variable {f1 f2 f3 f4 f5 : Addr} {d1 d2 d3 d4 d5 : FuncData}
structure TxtK7 (mg : Str → Option Value) : Prop where
  len : mg "len" = none
  list : mg "list" = none
  isi : mg "isinstance" = none
theorem ok_law (F : Fun K "law" "law" s_law f fd) (T : TxtK7 mg)
    (C : Df P w K mg base CX0 1 "_law_cell_at" ["_law_script", "_law_k"] (spCell K) f1 d1) (Nm : Df P w K mg base CX0 1 "_law_names" ["_law_cell", "_law_many"] spNamesU f2 d2)
    (Ln : Df P w K mg base CX0 1 "_law_leans" ["_law_cells", "_law_names_here"] (spLeans K) f3 d3) (Kn : Df P w K mg base CX0 3 "knots_of" ["names", "leans"] (spKnots K) f4 d4)
    (Wy : Df P w K mg base CX0 1 "_law_ways" ["_law_names_here", "_law_leans_here"] spWays f5 d5) : FnOk P w K mg base CX0 4 f fd ["_law_script"] (spLaw K) := by
  refine F.ok sc_law (fun vs H Q E h => ?_) (fun cdv A outer s H vs Q E hr h => ?_)
  · obtain ⟨a, ns, rfl, _⟩ := h
    rfl
  obtain ⟨a, ns, rfl, hS, h63, q⟩ := h
  have nd := sc_law.nd
  have hr1 : Room 1 _ := hr.mono (by decide)
  refine ⟨_, pss_cons (ps_set (i := 1) nd rfl (.inl rfl) (pe_call Nm.ok hr1 rfl Nm.m Nm.k Nm.b .nil pass0 (pa_cons (pe_call C.ok hr1 rfl C.m C.k C.b .nil pass0 (pa_cons (pv 0) (pa_cons pe_int pa_nil)))
      (pa_cons (pe_op op_add pe_int (pe_op op_mod (pe_call C.ok hr1 rfl C.m C.k C.b .nil pass0 (pa_cons (pv 0) (pa_cons pe_int pa_nil))) pe_int)) pa_nil))))
    (pss_cons (ps_set (i := 2) nd rfl (.inl rfl) (pe_call Ln.ok hr1 rfl Ln.m Ln.k Ln.b .nil pass0 (pa_cons (pe_slice sl_list (pv 0) (po_some pe_int) po_none) (pa_cons (pe_op op_cat (pv 1) (pe_lst (pa_cons pe_str pa_nil))) pa_nil))))
    (pss_cons (ps_set (i := 3) nd rfl (.inl rfl) (pe_op op_mod (pe_call C.ok hr1 rfl C.m C.k C.b .nil pass0 (pa_cons (pv 0) (pa_cons pe_int pa_nil))) pe_int))
    (C8.pss_cut (ps_if (pt_cmpR op_eq (pv 3) pe_int (nomark _)) (pss_one (ps_set (i := 1) nd rfl (.inl rfl) (pe_revL (pv 1)))) pss_nil)
    (C8.pss_cut (ps_if (pt_cmpR op_eq (pv 3) pe_int (nomark _)) (pss_one (ps_set (i := 1) nd rfl (.inl rfl) (pe_slice sl_list (pv 1) (po_some pe_int) po_none))) pss_nil)
    (C8.pss_cut (ps_if (pt_cmpR op_eq (pv 3) pe_int (nomark _)) (pss_one (ps_set (i := 1) nd rfl (.inl rfl) (pe_op op_cat (pe_sliceK (pv 1) (po_some pe_int) po_none) (pe_sliceK (pv 1) po_none po_none)))) pss_nil)
    (pss_cons (ps_set (i := 4) nd rfl (.inl rfl) pe_dnewK)
    (pss_cons (ps_lock (ps_for PassesOwn.never rfl (pi_keys (pv 2)) (pg_name (i := 5) nd rfl (.inr rfl))
      (pss_one (ps_dput (hu_of hr) (pv 4) (pv 5) (pe_callTy call_list_of (by rfl) T.list (by decide +kernel) (pa_cons (pe_dget (hu_of hr) (pv 2) (pv 5) (fun _ _ => rfl)) pa_nil)) rfl))))
    (pss_cons (ps_set (i := 6) nd rfl (.inl rfl) (pe_callTy call_list_of (by rfl) T.list (by decide +kernel) (pa_cons (pv 1) pa_nil)))
    (pss_cons (ps_set (i := 7) nd rfl (.inl rfl) (pe_call Kn.ok hr rfl Kn.m Kn.k Kn.b .nil pass0 (pa_cons (pv 6) (pa_cons (pv 4) pa_nil))))
    (pss_cons (ps_if (PW.pt (pw_or (pt_cmpR (op_neD hr.units) (pv 6) (pv 1) (nomark _)) (pw_or (pt_cmpR (op_neDD (u65 hr)) (pv 4) (pv 2) (nomark _)) (pw_or1 (pt_not (pt_val (pe_callB call_isi (by rfl) T.isi (by decide +kernel) (pa_cons (pv 7) (pa_cons (pe_bltn (v := .ty "list") (by rfl) T.list (by decide +kernel) rfl) pa_nil))))))))) (pss_one (ps_ret pe_bl)) pss_nil)
    (pss_cons (ps_set (i := 8) nd rfl (.inr rfl) (pe_call Wy.ok hr1 rfl Wy.m Wy.k Wy.b .nil pass0 (pa_cons (pv 1) (pa_cons (pv 2) pa_nil))))
    (pss_cons (ps_set (i := 9) nd rfl (.inl rfl) (pe_lst pa_nil))
    (pss_cons (ps_for PassesOwn.never rfl (pi_list (pv 1)) (pg_name (i := 5) nd rfl (.inr rfl))
      (pss_cons (ps_setLc (i := 10) (own := [("_law_other", 11)]) (g := gName 11) rfl nd rfl rfl (sw_true rfl rfl rfl (by decide +kernel)) (pi_list (pv 1)) (blkOk_by (N := ["_law_script", "_law_names_here", "_law_leans_here", "_law_way", "_law_handed", "_law_name", "_law_given", "_law_found", "_law_ways_here", "_law_due", "_law_knot", "_law_other"]) (sc := defScope s_law) (by decide +kernel))
        (fun _ _ _ _ _ => pg_name (i := 11) nd rfl (.inl rfl)) (fun _ _ _ _ _ => pts_one (PW.pt (pw_and (pt_cmpR (r := rIn K false) op_in_seq (pv 11) (pe_dget (hu_of hr) (pv 8) (pv 5) (fun _ _ => rfl)) rfl) (pw_and1 (pt_cmpR (r := rIn K false) op_in_seq (pv 5) (pe_dget (hu_of hr) (pv 8) (pv 11) (fun _ _ => rfl)) rfl)))))
        (fun _ _ _ _ _ => pv 11))
      (pss_one (ps_if (pt_cmpR (op_notInD (u65 hr)) (pv 10) (pv 9) rfl) (pss_one (ps_expr (pe_bm PySem.F.plainAttrs_list PySem.F.slot_list_append PySem.F.type_list_append mt_append (pv 9) (pa_cons (pv 10) pa_nil)))) pss_nil))))
    (pss_one (ps_ret (pe_cmpR (op_eqV hr.units) (pv 7) (pv 9) (nomark _))))))))))))))))), ?_⟩
  refine ⟨_, rfl, a, ns, 0, rfl, hS, h63, fun c0 => ?_⟩
  refine ⟨_, rfl, a, ns, 1, rfl, hS, h63, fun c1 => ?_⟩
  have m0 : 0 ≤ c1 % 9 := Int.emod_nonneg _ (by decide)
  have m1 : c1 % 9 < 9 := Int.emod_lt_of_pos _ (by decide)
  refine ⟨_, _, rfl, rfl, (by show (0 : Int) < 9; decide), _, _, rfl, rfl, c0, 1 + c1 % 9, rfl, by omega, by omega, fun l H1 nms s1 hl e1 hlen hok hnd => ?_⟩
  have hS1 : SqL K H1 a (ns.map V.int) := s1.seq hS
  refine ⟨_, rfl, _, rfl, a, _, rfl, hS1, fun ps hps => ?_⟩
  obtain ⟨ns', ens, hns⟩ := cut_int ns (some 3)
  have s2 := same_new hps (.lst (cutV (ns.map V.int) (some 3) none))
  have e1' := s2 _ _ e1
  refine ⟨_, rfl, (by show 1 ≤ sizeLine; decide), fun e0 he0 => ?_⟩
  have s4 := same_new he0 (.lst [.str "qqqqqq"])
  refine ⟨l, e0, _, _, rfl, rfl, s4 _ _ e1', upd_same, ?_, fun p0 hp0 => ?_⟩
  · rw [List.length_map]; exact big (by show nms.length + 1 ≤ 100000; omega)
  have s5 := same_new hp0 (.lst (nms.map V.str ++ [.str "qqqqqq"]))
  refine ⟨ps, ns', p0, nms ++ [("qqqqqq" : Str)], rfl, SqL.of (by rw [← ens]; exact s5 _ _ (s4 _ _ upd_same)), by omega, by rw [List.map_append]; exact upd_same, by rw [List.length_append]; exact Nat.le_add_left _ _, by rw [List.length_append]; show nms.length + 1 ≤ 20; omega, fun D m H2 s3 hD L2 nk ht hm => ?_⟩
  have s25 := ((s2.trans s4).trans s5).trans s3
  have s12 := s1.trans s25
  have el2 := s25 _ _ e1
  have qok : NameOk "qqqqqq" := by unfold NameOk; decide +kernel
  have hok' : ∀ s ∈ nms ++ [("qqqqqq" : Str)], NameOk s := fun s hs => by
    rcases List.mem_append.mp hs with z | z
    · exact hok s z
    · rw [List.mem_singleton.mp z]; exact qok
  refine ⟨_, rfl, a, ns, 2, rfl, s12.seq hS, h63, fun c2 => ?_⟩
  refine ⟨_, _, rfl, rfl, (by show (0 : Int) < 4; decide), ?_⟩
  refine ⟨fun σ H' => ∃ (l' : Addr) (nms' : List Str), σ = [some (.ref a), some (.ref l'), some (.ref D), some (.int (c2 % 4)), none, none, none, none, none, none, none, none] ∧ Same H2 H' ∧ H' l' = some (.lst (nms'.map V.str)) ∧ nms'.Nodup ∧ nms'.length < 12 ∧ ∀ x ∈ nms', x ∈ nms, ?_, ?_⟩
  · refine ⟨_, rfl, rfl, _, rfl, ?_⟩
    refine ite2 (fun _ => ?_) (fun _ => ?_)
    · refine ⟨_, rfl, l, _, rfl, SqL.of el2, fun p hp => ?_⟩
      exact ⟨p, nms.reverse, rfl, same_new hp _, by rw [upd_same, List.map_reverse], (List.reverse_perm nms).nodup_iff.mpr hnd, by rw [List.length_reverse]; omega, fun x hx => List.mem_reverse.mp hx⟩
    · exact ⟨l, nms, rfl, .refl _, el2, hnd, by omega, fun _ h => h⟩
  rintro σ HX1 ⟨l1, nms1, rfl, sX1, eX1, nd1, len1, sub1⟩
  refine ⟨fun σ H' => ∃ (l' : Addr) (nms' : List Str), σ = [some (.ref a), some (.ref l'), some (.ref D), some (.int (c2 % 4)), none, none, none, none, none, none, none, none] ∧ Same H2 H' ∧ H' l' = some (.lst (nms'.map V.str)) ∧ nms'.Nodup ∧ nms'.length < 12 ∧ ∀ x ∈ nms', x ∈ nms, ?_, ?_⟩
  · refine ⟨_, rfl, rfl, _, rfl, ?_⟩
    refine ite2 (fun _ => ?_) (fun _ => ?_)
    · obtain ⟨cl, ecl, hsb⟩ := cut_str nms1 (some 1)
      refine ⟨_, rfl, _, rfl, l1, _, rfl, SqL.of eX1, fun p hp => ?_⟩
      exact ⟨p, cl, rfl, sX1.trans (same_new hp _), by rw [upd_same, ecl], hsb.nodup nd1, Nat.lt_of_le_of_lt hsb.length_le len1, fun x hx => sub1 x (hsb.subset hx)⟩
    · exact ⟨l1, nms1, rfl, sX1, eX1, nd1, len1, sub1⟩
  rintro σ HX2 ⟨l2, nms2, rfl, sX2, eX2, nd2, len2, sub2⟩
  refine ⟨fun σ H' => ∃ (l' : Addr) (nms' : List Str), σ = [some (.ref a), some (.ref l'), some (.ref D), some (.int (c2 % 4)), none, none, none, none, none, none, none, none] ∧ Same H2 H' ∧ H' l' = some (.lst (nms'.map V.str)) ∧ nms'.Nodup ∧ nms'.length < 12 ∧ ∀ x ∈ nms', x ∈ nms, ?_, ?_⟩
  · refine ⟨_, rfl, rfl, _, rfl, ?_⟩
    refine ite2 (fun _ => ?_) (fun _ => ?_)
    · obtain ⟨on, os⟩ := odds_evens nd2 len2
      have lp1 : (pickV nms2 (some 1) none ((2 : Nat) : Int)).length ≤ 100 := Nat.le_trans (nodup_sub (List.nodup_append.mp on).1 fun x hx => os x (List.mem_append_left _ hx)) (by omega)
      have lp2 : (pickV nms2 none none ((2 : Nat) : Int)).length ≤ 100 := Nat.le_trans (nodup_sub (List.nodup_append.mp on).2.1 fun x hx => os x (List.mem_append_right _ hx)) (by omega)
      refine ⟨_, rfl, _, rfl, l2, _, rfl, SqL.of eX2, fun p1 hp1 => ?_⟩
      have t1 := same_new hp1 (.lst (pickV (nms2.map V.str) (some 1) none 2))
      refine ⟨_, rfl, l2, _, rfl, SqL.of (t1 _ _ eX2), fun p2 hp2 => ?_⟩
      have t2 := same_new hp2 (.lst (pickV (nms2.map V.str) none none 2))
      refine ⟨p1, p2, _, _, rfl, rfl, t2 _ _ upd_same, upd_same, ?_, fun p3 hp3 => ?_⟩
      · rw [pick_map, pick_map, List.length_map, List.length_map]
        exact big (Nat.le_trans (Nat.add_le_add lp1 lp2) (by decide))
      · exact ⟨p3, pickV nms2 (some 1) none 2 ++ pickV nms2 none none 2, rfl, ((sX2.trans t1).trans t2).trans (same_new hp3 _), by rw [upd_same, pick_map, pick_map, List.map_append]; rfl, on, Nat.lt_of_le_of_lt (nodup_sub on os) len2, fun x hx => sub2 x (os x hx)⟩
    · exact ⟨l2, nms2, rfl, sX2, eX2, nd2, len2, sub2⟩
  rintro σ HX ⟨l', nms', rfl, sX, eX, nd', len', sub'⟩
  have LX := L2.mono sX
  have mk : ∀ {i : Nat} {x : V}, (nms'.map V.str)[i]? = some x → ∃ z, nms'[i]? = some z ∧ x = V.str z := fun {i x} hi => by
    rw [List.getElem?_map] at hi
    cases ez : nms'[i]? with
    | none => rw [ez] at hi; cases hi
    | some z => rw [ez] at hi; exact ⟨z, rfl, (Option.some.inj hi).symm⟩
  have okn : ∀ s ∈ nms', NameOk s := fun s hs => hok s (sub' s hs)
  have okm : ∀ p ∈ m, ∀ s ∈ p.2.2, NameOk s := fun p hp s hs => hok' s ((hm p hp).2 s hs)
  refine fun HD hHD => ?_
  have sd := same_new hHD (.dK [])
  have LD := LX.mono sd
  have eD := sd _ _ eX
  have nD : D ≠ HD := ne_of_none LX.d hHD
  refine ⟨D, .dK (kvL m), LD.d, True.intro, fun od => ?_⟩
  refine ⟨_, rfl, D, od, rfl, .inl ⟨_, upd_same, for_it walk_keys (fun i σ H' => ∃ (v5 : Option V) (mh : LM), σ = [some (.ref a), some (.ref l'), some (.ref D), some (.int (c2 % 4)), some (.ref HD), v5, none, none, none, none, none, none] ∧ H' D = some (.frz od (.dK (kvL m))) ∧ LAt H' HD mh ∧ SameM mh (m.take i) ∧ ∀ b o, HX b = some o → b ≠ D → H' b = some o)
    ⟨none, [], rfl, upd_same, ⟨by rw [upd_ne nD.symm]; exact upd_same, fun p hp => by cases hp⟩, rfl, fun b o hb hn => by rw [upd_ne hn]; exact sd _ _ hb⟩ (fun i σ H' _ ⟨_, _, _, e, _⟩ => e) ?_ ?_⟩⟩
  · rintro i x σ HA HB hi ⟨v5, mh, rfl, eD', LH, sm, ex⟩ ⟨rfl, kk, v, hkv, rfl⟩
    have hi' : i < m.length := by unfold kvL at hi; rwa [List.length_map] at hi
    have hmi : m[i]? = some m[i] := List.getElem?_eq_getElem hi'
    unfold kvL at hkv
    rw [List.getElem?_map, hmi] at hkv
    cases hkv
    have hm' : m[i] ∈ m := List.getElem_mem hi'
    have lk := mem_lkp nk hm'
    have nt : m[i].1 ∉ keysM mh := by rw [sm.keys]; exact not_tk nk hmi
    have el9 : HB m[i].2.1 = some (.lst (m[i].2.2.map V.str)) := ex _ _ (LX.l _ hm') (ne_of (LX.l _ hm') LX.d (by intro z; cases z))
    have hlen' : mh.length ≤ 20 := by
      have h1 := sm.len
      have h2 : (keysM m).length ≤ (nms ++ [("qqqqqq" : Str)]).length := nodup_sub nk fun x hx => by
        obtain ⟨p, hp, e⟩ := List.mem_map.mp hx
        rw [← e]; exact (hm p hp).1
      unfold keysM at h2
      rw [List.length_map, List.length_append, List.length_singleton] at h2
      rw [List.length_take] at h1
      omega
    refine ⟨_, rfl, _, rfl, D, .ref m[i].2.1, rfl, .inl ⟨_, Sum.inr m[i].1, .inr ⟨od, eD'⟩, rfl, by rw [kvL_val, lk]; rfl⟩, ?_⟩
    refine ⟨_, _, rfl, .inl (SqL.of el9), fun qn hqn => ?_⟩
    have sq := same_new hqn (.lst (m[i].2.2.map V.str))
    have LH2 := LH.mono sq
    refine ⟨_, rfl, _, rfl, HD, _, rfl, DPut.k (k := Sum.inr m[i].1) LH2.d (by unfold kvL; rw [List.length_map]; exact small1000 (by omega)), ?_⟩
    rw [kvL_put mh m[i].1 (qn, m[i].2.2), putM_new nt]
    have nq : HD ≠ qn := ne_of_none LH.d hqn
    refine ⟨_, mh ++ [(m[i].1, qn, m[i].2.2)], rfl, by rw [upd_ne nD]; exact sq _ _ eD', ⟨upd_same, fun p hp => ?_⟩, ?_, fun b o hb hn => ?_⟩
    · rcases List.mem_append.mp hp with z | z
      · rw [upd_ne (ne_of (LH2.l p z) LH2.d (by intro w; cases w))]
        exact LH2.l p z
      · rw [List.mem_singleton.mp z, upd_ne nq.symm]
        exact upd_same
    · unfold SameM at sm ⊢
      rw [take_more hmi, List.map_append, List.map_append, sm]
      rfl
    · rw [upd_ne (ne_of_none hb hHD)]
      exact sq _ _ (ex b o hb hn)
  rintro σ HA ⟨v5, mh, rfl, eD', LH, sm, ex⟩
  have sm' : SameM mh m := by unfold kvL at sm; rwa [List.length_map, List.take_length] at sm
  refine ⟨eD', ?_⟩
  have LB : LAt (upd HA D (.dK (kvL m))) HD mh := ⟨by rw [upd_ne nD.symm]; exact LH.d, fun p hp => by rw [upd_ne (ne_of (LH.l p hp) eD' (by intro z; cases z))]; exact LH.l p hp⟩
  have LB2 : LAt (upd HA D (.dK (kvL m))) D m := ⟨upd_same, fun p hp => by
    have nn := ne_of (LX.l p hp) LX.d (by intro z; cases z)
    rw [upd_ne nn]; exact ex _ _ (LX.l p hp) nn⟩
  have eB : (upd HA D (.dK (kvL m))) l' = some (.lst (nms'.map V.str)) := by
    have nn := ne_of eX LX.d (by intro z; cases z)
    rw [upd_ne nn]; exact ex _ _ eX nn
  generalize upd HA D (.dK (kvL m)) = HB at *
  have lf : lof mh = lof m := funext sm'.lof
  have fin : inner mh nms' = inner m nms' := by funext x; unfold inner; rw [lf]
  refine ⟨_, rfl, l', _, rfl, .inl (SqL.of eB), fun g hg => ?_⟩
  have sg := same_new hg (.lst (nms'.map V.str))
  refine ⟨_, rfl, _, rfl, g, HD, nms', mh, rfl, SqL.of upd_same, nd', by omega, (LB.mono sg).rd, ?_, fun pf ks HC sC hnf ef hks eks => ?_⟩
  · have h1 := leanSum_tot mh nd'
    have h2 := sm'.tot
    omega
  rw [fin] at eks
  have sgC := sg.trans sC
  have LC := LB.mono sgC
  have LC2 := LB2.mono sgC
  refine ⟨_, rfl, _, rfl, _, _, .lst (SqL.of (sC _ _ upd_same)) (dp_strs _), .lst (SqL.of (sgC _ _ eB)) (dp_strs _), shaped_strs okn, shaped_strs okn, _, rfl, ?_⟩
  rw [eqv_strs okn]
  refine iteF ⟨_, rfl, _, rfl, HD, D, kvL mh, kvL m, rfl, rfl, LC.d, LC2.d, by unfold kvL; rw [List.length_map, List.length_map, sm'.len], fun p hp => ?_, _, rfl, ?_⟩
  · obtain ⟨q1, hq1, eq1⟩ := List.mem_map.mp hp
    subst eq1
    have l1 := mem_lkp (by rw [sm'.keys]; exact nk) hq1
    have nn : lkp m q1.1 ≠ none := fun z => (lkp_none.mp z) (by rw [← sm'.keys]; exact List.mem_map_of_mem hq1)
    obtain ⟨q2, hq2⟩ := Option.ne_none_iff_exists'.mp nn
    have l2 := lkp_mem hq2
    have ll : q1.2.2 = q2.2 := by
      have := sm'.lof q1.1
      unfold lof at this
      rw [l1, hq2] at this
      exact this
    have ok2 : ∀ s ∈ q2.2, NameOk s := okm _ l2
    refine ⟨.ref q2.1, _, _, by show valV (kvL m) (Sum.inr q1.1) = _; rw [kvL_val, hq2]; rfl, .lst (SqL.of (LC.l _ hq1)) (dp_strs _), .lst (SqL.of (LC2.l _ l2)) (dp_strs _), by rw [ll]; exact shaped_strs ok2, shaped_strs ok2, by rw [ll]; exact eqv_strs ok2⟩
  refine iteF ⟨_, rfl, _, _, _, _, true, rfl, .ty _, .base (.lst ef), kit_ty (by decide +kernel), _, rfl, ?_⟩
  refine iteF ?_
  refine ⟨_, rfl, _, rfl, l', D, nms', m, rfl, sgC _ _ eB, nd', by omega, LC2.rd, by omega, fun pw aw rw HE sE hnw ew hrows => ?_⟩
  refine ⟨(by show 0 ≤ sizeLine; decide), fun pd hpd => ?_⟩
  have sEd := same_new hpd (.lst [])
  have efE := sE _ _ ef
  have elE := sE _ _ (sgC _ _ eB)
  have hksE : ∀ q ∈ ks, HE q.1 = some (.lst (q.2.map V.str)) := fun q hq => sE _ _ (hks q hq).1
  refine ⟨_, rfl, l', rfl, ⟨_, SqL.of (sEd _ _ elE)⟩, for_list (K := K) (a := l') (xs := nms'.map V.str) (fun i σ H' => ∃ (v5 v10 : Option V) (ds : List (Addr × List Str)), σ = [some (.ref a), some (.ref l'), some (.ref D), some (.int (c2 % 4)), some (.ref HD), v5, some (.ref g), some (.ref pf), some (.ref pw), some (.ref pd), v10, none] ∧ Same HE H' ∧ H' pd = some (.lst (ds.map fun q => V.ref q.1)) ∧
      (∀ q ∈ ds, H' q.1 = some (.lst (q.2.map V.str)) ∧ q.1 ≠ pd) ∧ ds.map (·.2) = (nms'.take i).foldl (dueStep (inner m nms') nms') [])
    ⟨v5, none, [], rfl, sEd, upd_same, fun q hq => (by cases hq), rfl⟩ (fun i σ H' _ ⟨_, _, _, _, s, _⟩ => SqL.of (s _ _ elE)) ?_ ?_⟩
  · rintro i x σ HF hi ⟨v5', v10, ds, rfl, sF, ed, hds, eds⟩
    obtain ⟨z, hz, rfl⟩ := mk hi
    have hzn : z ∈ nms' := List.mem_of_getElem? hz
    refine ⟨_, rfl, l', rfl, ⟨_, SqL.of (sF _ _ elE)⟩, fun L hL' => ?_⟩
    have nLd : pd ≠ L := ne_of_none ed hL'
    refine lc_list (K := K) (a := l') (xs := nms'.map V.str) (fun j H' => Same HF H' ∧ H' L = some (.lst ((fil (Kno (inner m nms') z) (nms'.take j)).map V.str))) ⟨same_new hL' _, upd_same⟩ (fun j H' _ h => SqL.of (h.1 _ _ (sF _ _ elE))) ?_ ?_
    · rintro j x HG hj ⟨sG, eL⟩
      obtain ⟨y, hy, rfl⟩ := mk hj
      have hyn : y ∈ nms' := List.mem_of_getElem? hy
      have sFG := sF.trans sG
      obtain ⟨z1, z2, z3⟩ := hrows z hzn
      obtain ⟨y1, y2, y3⟩ := hrows y hyn
      have fl : (fil (Kno (inner m nms') z) (nms'.take j)).length ≤ 20 := Nat.le_trans (fil_len _ _) (by rw [List.length_take]; omega)
      have yes : Kno (inner m nms') z y → ∃ acc, HG L = some (.lst acc) ∧ acc.length < sizeLine ∧ (Same HF (upd HG L (.lst (acc ++ [V.str y]))) ∧ (upd HG L (.lst (acc ++ [V.str y]))) L = some (.lst ((fil (Kno (inner m nms') z) (nms'.take (j + 1))).map V.str))) := fun h => by
        refine ⟨_, eL, ?_, same_upd sG hL' _, ?_⟩
        · rw [List.length_map]; exact small1000 (by omega)
        · rw [upd_same, take_more hy, fil_pos h, List.map_append]
          rfl
      have no : ¬ Kno (inner m nms') z y → Same HF HG ∧ HG L = some (.lst ((fil (Kno (inner m nms') z) (nms'.take (j + 1))).map V.str)) := fun h => by
        refine ⟨sG, ?_⟩
        rw [eL, take_more hy, fil_neg h]
      refine ⟨rfl, ?_⟩
      refine ⟨_, rfl, _, rfl, _, rfl, pw, .ref (aw z), rfl, by rw [← recv (rv := fun s => V.ref (aw s)) hzn]; exact DGet.k (k := Sum.inr z) (sFG _ _ ew), aw z, _, rfl, .inl (SqL.of (sFG _ _ z1)), rfl, flat_strs _, _, rfl, ?_⟩
      rw [in_strs]
      by_cases c1 : y ∈ rw z
      · rw [decide_eq_true c1]
        refine iteT ⟨_, rfl, _, rfl, _, rfl, pw, .ref (aw y), rfl, by rw [← recv (rv := fun s => V.ref (aw s)) hyn]; exact DGet.k (k := Sum.inr y) (sFG _ _ ew), aw y, _, rfl, .inl (SqL.of (sFG _ _ y1)), rfl, flat_strs _, _, rfl, ?_⟩
        rw [in_strs]
        have q1 := (z2 y).mp c1
        by_cases c2 : z ∈ rw y
        · rw [decide_eq_true c2]
          have q2 := (y2 z).mp c2
          refine iteT ⟨_, rfl, ?_⟩
          refine yes ?_
          rcases q1 with q1 | q1
          · exact .inl q1
          · rcases q2 with q2 | q2
            · exact .inl q2.symm
            · exact .inr ⟨q1, q2⟩
        · rw [decide_eq_false c2]
          refine iteF ?_
          exact no fun k => c2 ((y2 z).mpr (k.elim (fun e => .inl e.symm) fun k => .inr k.2))
      · rw [decide_eq_false c1]
        refine iteF ?_
        refine iteF ?_
        exact no fun k => c1 ((z2 y).mpr (k.elim .inl fun k => .inr k.1))
    · rintro HG ⟨sG, eL⟩
      rw [List.length_map, List.take_length] at eL
      have ekn : fil (Kno (inner m nms') z) nms' = knotM (inner m nms') nms' z := rfl
      rw [ekn] at eL
      have edG := sG _ _ ed
      have hdsG : ∀ q ∈ ds, HG q.1 = some (.lst (q.2.map V.str)) := fun q hq => sG _ _ (hds q hq).1
      have sub3 : ∀ n, ∀ s ∈ knotM (inner m nms') nms' n, NameOk s := fun n s hs => okn s (mem_knotM.mp hs).1
      have okds : ∀ l ∈ ds.map (·.2), ∀ s ∈ l, NameOk s := fun l hl s hs => by
        rw [eds] at hl
        rw [due_eq _ _ (fun k hk => by cases hk) (fun n hn => List.mem_of_mem_take hn)] at hl
        obtain ⟨n, _, e⟩ := knots_sub (nms'.take i) [] (fun k hk => by cases hk) (fun n hn => List.mem_of_mem_take hn) l hl
        rw [e] at hs
        exact sub3 n s hs
      have dsl : ds.length ≤ 20 := by
        have h1 := knots_len (f := inner m nms') (ns := nms') (nms'.take i) []
        rw [← due_eq _ _ (fun k hk => by cases hk) (fun n hn => List.mem_of_mem_take hn), ← eds, List.length_map, List.length_take] at h1
        simp at h1
        omega
      refine ⟨_, rfl, _, rfl, _, _, .lst (SqL.of eL) (dp_strs _), .lst (SqL.of edG) (dp_lls hdsG), shaped_strs (sub3 z), shaped_lls okds, _, rfl, ?_⟩
      rw [any_lls]
      by_cases c : knotM (inner m nms') nms' z ∈ ds.map (·.2)
      · rw [decide_eq_true c]
        refine iteF ⟨_, _, ds, rfl, sF.trans sG, edG, fun q hq => ⟨hdsG q hq, (hds q hq).2⟩, ?_⟩
        rw [foldl_take _ hz, ← eds]
        unfold dueStep
        rw [if_pos c]
      · rw [decide_eq_false c]
        refine iteT ⟨_, rfl, .inl ⟨rfl, _, SqL.of edG⟩, _, rfl, pd, _, _, rfl, rfl, edG, small1000 (by rw [List.length_map]; omega), ?_⟩
        refine ⟨_, _, ds ++ [(L, knotM (inner m nms') nms' z)], rfl, same_upd (sF.trans sG) hpd _, by rw [upd_same, List.map_append]; rfl, fun q hq => ?_, ?_⟩
        · rcases List.mem_append.mp hq with w | w
          · rw [upd_ne (hds q w).2]
            exact ⟨hdsG q w, (hds q w).2⟩
          · rw [List.mem_singleton.mp w, upd_ne nLd.symm]
            exact ⟨eL, nLd.symm⟩
        · rw [foldl_take _ hz, ← eds, List.map_append]
          unfold dueStep
          rw [if_neg c]
          rfl
  · rintro σ HF ⟨v5', v10, ds, rfl, sF, ed, hds, eds⟩
    rw [List.length_map, List.take_length, due_eq _ _ (fun k hk => by cases hk) (fun n hn => hn)] at eds
    refine ⟨_, rfl, _, rfl, 2, by decide, .inl ⟨pf, pd, _, _, rfl, rfl, SqL.of (sF _ _ efE), SqL.of ed, paired_lls (fun q hq => sF _ _ (hksE q hq)) (fun q hq => (hds q hq).1) ?_⟩, q _⟩
    rw [eks, eds]
    rfl
end
end Aw

namespace Aw
open PySem L2
theorem all_mk {l : PySem.W.OpenLaw} {w : World} {K : PySem.W.Frag} {h : Heap} {mg : Str → Option Value} {fa : Addr} (X : K.In h) (G : h.Ns mainGlobals mg) (hfa : mg "law" = some (.ref fa))
    {f_knots_of : Addr} {od_knots_of an_knots_of : Option Addr} {sl_knots_of : Array (Option Value)} {oc_knots_of kV_knots_of dc_knots_of pm_knots_of cd_knots_of ct_knots_of : Value}
    {f_knot_of : Addr} {od_knot_of an_knot_of : Option Addr} {sl_knot_of : Array (Option Value)} {oc_knot_of kV_knot_of dc_knot_of pm_knot_of cd_knot_of ct_knot_of : Value}
    {f_reached : Addr} {od_reached an_reached : Option Addr} {sl_reached : Array (Option Value)} {oc_reached kV_reached dc_reached pm_reached cd_reached ct_reached : Value}
    {f_law_cell_at : Addr} {od_law_cell_at an_law_cell_at : Option Addr} {sl_law_cell_at : Array (Option Value)} {oc_law_cell_at kV_law_cell_at dc_law_cell_at pm_law_cell_at cd_law_cell_at ct_law_cell_at : Value}
    {f_law_names : Addr} {od_law_names an_law_names : Option Addr} {sl_law_names : Array (Option Value)} {oc_law_names kV_law_names dc_law_names pm_law_names cd_law_names ct_law_names : Value}
    {f_law_leans : Addr} {od_law_leans an_law_leans : Option Addr} {sl_law_leans : Array (Option Value)} {oc_law_leans kV_law_leans dc_law_leans pm_law_leans cd_law_leans ct_law_leans : Value}
    {f_law_ways : Addr} {od_law_ways an_law_ways : Option Addr} {sl_law_ways : Array (Option Value)} {oc_law_ways kV_law_ways dc_law_ways pm_law_ways cd_law_ways ct_law_ways : Value}
    {f_law : Addr} {od_law an_law : Option Addr} {sl_law : Array (Option Value)} {oc_law kV_law dc_law pm_law cd_law ct_law : Value}
    (a_knots_of : PySem.W.nsIn K mainGlobals "knots_of" = some (some (.ref f_knots_of)))
    (l_knots_of : K.lookup f_knots_of = some ⟨oc_knots_of, od_knots_of, .func (PySem.W.fnOf "knots_of" "knots_of" (defArgs s_knots_of) (defBody s_knots_of) (defScope s_knots_of) .none kV_knots_of dc_knots_of pm_knots_of an_knots_of cd_knots_of ct_knots_of), sl_knots_of⟩) (c_knots_of : PySem.W.codeIn K cd_knots_of "knots_of" = true) (k_knots_of : PySem.W.keepIn K (.ref f_knots_of) = true)
    (a_knot_of : PySem.W.nsIn K mainGlobals "knot_of" = some (some (.ref f_knot_of)))
    (l_knot_of : K.lookup f_knot_of = some ⟨oc_knot_of, od_knot_of, .func (PySem.W.fnOf "knot_of" "knot_of" (defArgs s_knot_of) (defBody s_knot_of) (defScope s_knot_of) .none kV_knot_of dc_knot_of pm_knot_of an_knot_of cd_knot_of ct_knot_of), sl_knot_of⟩) (c_knot_of : PySem.W.codeIn K cd_knot_of "knot_of" = true) (k_knot_of : PySem.W.keepIn K (.ref f_knot_of) = true)
    (a_reached : PySem.W.nsIn K mainGlobals "reached" = some (some (.ref f_reached)))
    (l_reached : K.lookup f_reached = some ⟨oc_reached, od_reached, .func (PySem.W.fnOf "reached" "reached" (defArgs s_reached) (defBody s_reached) (defScope s_reached) .none kV_reached dc_reached pm_reached an_reached cd_reached ct_reached), sl_reached⟩) (c_reached : PySem.W.codeIn K cd_reached "reached" = true) (k_reached : PySem.W.keepIn K (.ref f_reached) = true)
    (a_law_cell_at : PySem.W.nsIn K mainGlobals "_law_cell_at" = some (some (.ref f_law_cell_at)))
    (l_law_cell_at : K.lookup f_law_cell_at = some ⟨oc_law_cell_at, od_law_cell_at, .func (PySem.W.fnOf "_law_cell_at" "_law_cell_at" (defArgs s_law_cell_at) (defBody s_law_cell_at) (defScope s_law_cell_at) .none kV_law_cell_at dc_law_cell_at pm_law_cell_at an_law_cell_at cd_law_cell_at ct_law_cell_at), sl_law_cell_at⟩) (c_law_cell_at : PySem.W.codeIn K cd_law_cell_at "_law_cell_at" = true) (k_law_cell_at : PySem.W.keepIn K (.ref f_law_cell_at) = true)
    (a_law_names : PySem.W.nsIn K mainGlobals "_law_names" = some (some (.ref f_law_names)))
    (l_law_names : K.lookup f_law_names = some ⟨oc_law_names, od_law_names, .func (PySem.W.fnOf "_law_names" "_law_names" (defArgs s_law_names) (defBody s_law_names) (defScope s_law_names) .none kV_law_names dc_law_names pm_law_names an_law_names cd_law_names ct_law_names), sl_law_names⟩) (c_law_names : PySem.W.codeIn K cd_law_names "_law_names" = true) (k_law_names : PySem.W.keepIn K (.ref f_law_names) = true)
    (a_law_leans : PySem.W.nsIn K mainGlobals "_law_leans" = some (some (.ref f_law_leans)))
    (l_law_leans : K.lookup f_law_leans = some ⟨oc_law_leans, od_law_leans, .func (PySem.W.fnOf "_law_leans" "_law_leans" (defArgs s_law_leans) (defBody s_law_leans) (defScope s_law_leans) .none kV_law_leans dc_law_leans pm_law_leans an_law_leans cd_law_leans ct_law_leans), sl_law_leans⟩) (c_law_leans : PySem.W.codeIn K cd_law_leans "_law_leans" = true) (k_law_leans : PySem.W.keepIn K (.ref f_law_leans) = true)
    (a_law_ways : PySem.W.nsIn K mainGlobals "_law_ways" = some (some (.ref f_law_ways)))
    (l_law_ways : K.lookup f_law_ways = some ⟨oc_law_ways, od_law_ways, .func (PySem.W.fnOf "_law_ways" "_law_ways" (defArgs s_law_ways) (defBody s_law_ways) (defScope s_law_ways) .none kV_law_ways dc_law_ways pm_law_ways an_law_ways cd_law_ways ct_law_ways), sl_law_ways⟩) (c_law_ways : PySem.W.codeIn K cd_law_ways "_law_ways" = true) (k_law_ways : PySem.W.keepIn K (.ref f_law_ways) = true)
    (a_law : PySem.W.nsIn K mainGlobals "law" = some (some (.ref f_law)))
    (l_law : K.lookup f_law = some ⟨oc_law, od_law, .func (PySem.W.fnOf "law" "law" (defArgs s_law) (defBody s_law) (defScope s_law) .none kV_law dc_law pm_law an_law cd_law ct_law), sl_law⟩) (c_law : PySem.W.codeIn K cd_law "law" = true) (k_law : PySem.W.keepIn K (.ref f_law) = true)
    (z_len : PySem.W.nsIn K mainGlobals "len" = some none)
    (z_int : PySem.W.nsIn K mainGlobals "int" = some none)
    (z_range : PySem.W.nsIn K mainGlobals "range" = some none)
    (z_str : PySem.W.nsIn K mainGlobals "str" = some none)
    (z_list : PySem.W.nsIn K mainGlobals "list" = some none)
    (z_isi : PySem.W.nsIn K mainGlobals "isinstance" = some none)
    : ∃ fd : FuncData, (∀ (s : Shared) (v : Value), BindsTo s fd ⟨[v], []⟩ [("_law_script", v)]) ∧ ∀ base : Heap, K.In base → base.Ns mainGlobals mg → FnOk l.prog w K mg base CX0 4 fa fd ["_law_script"] (spLaw K) := by
  have e := hfa.symm.trans (PySem.W.mg_of X G a_law)
  cases e
  have F_knots_of := fun_mk (st := s_knots_of) l_knots_of c_knots_of k_knots_of
  have b_knots_of := F_knots_of.binds (ps := ["names", "leans"]) fun _ _ _ _ _ _ us hl => match us, hl with | [_, _], _ => rfl
  have F_knot_of := fun_mk (st := s_knot_of) l_knot_of c_knot_of k_knot_of
  have b_knot_of := F_knot_of.binds (ps := ["name", "within", "backward"]) fun _ _ _ _ _ _ us hl => match us, hl with | [_, _, _], _ => rfl
  have F_reached := fun_mk (st := s_reached) l_reached c_reached k_reached
  have b_reached := F_reached.binds (ps := ["name", "leans"]) fun _ _ _ _ _ _ us hl => match us, hl with | [_, _], _ => rfl
  have F_law_cell_at := fun_mk (st := s_law_cell_at) l_law_cell_at c_law_cell_at k_law_cell_at
  have b_law_cell_at := F_law_cell_at.binds (ps := ["_law_script", "_law_k"]) fun _ _ _ _ _ _ us hl => match us, hl with | [_, _], _ => rfl
  have F_law_names := fun_mk (st := s_law_names) l_law_names c_law_names k_law_names
  have b_law_names := F_law_names.binds (ps := ["_law_cell", "_law_many"]) fun _ _ _ _ _ _ us hl => match us, hl with | [_, _], _ => rfl
  have F_law_leans := fun_mk (st := s_law_leans) l_law_leans c_law_leans k_law_leans
  have b_law_leans := F_law_leans.binds (ps := ["_law_cells", "_law_names_here"]) fun _ _ _ _ _ _ us hl => match us, hl with | [_, _], _ => rfl
  have F_law_ways := fun_mk (st := s_law_ways) l_law_ways c_law_ways k_law_ways
  have b_law_ways := F_law_ways.binds (ps := ["_law_names_here", "_law_leans_here"]) fun _ _ _ _ _ _ us hl => match us, hl with | [_, _], _ => rfl
  have F_law := fun_mk (st := s_law) l_law c_law k_law
  have b_law := F_law.binds (ps := ["_law_script"]) fun _ _ _ _ _ _ us hl => match us, hl with | [_], _ => rfl
  have TL : TxtL K mg := ⟨PySem.W.mg_none_of X G z_len, PySem.W.mg_none_of X G z_int, PySem.W.mg_none_of X G z_range, PySem.W.mg_none_of X G z_str⟩
  have T7 : TxtK7 mg := ⟨PySem.W.mg_none_of X G z_len, PySem.W.mg_none_of X G z_list, PySem.W.mg_none_of X G z_isi⟩
  refine ⟨PySem.W.fnOf "law" "law" (defArgs s_law) (defBody s_law) (defScope s_law) .none kV_law dc_law pm_law an_law cd_law ct_law, fun s v => .of_eq rfl, fun base _ _ => ?_⟩
  have GR : FnOk l.prog w K mg base CX0 1 f_reached _ ["name", "leans"] spReached := ok_reached F_reached (PySem.W.mg_none_of X G z_list)
  have GK : FnOk l.prog w K mg base CX0 2 f_knot_of _ ["name", "within", "backward"] spKnot := ok_knot F_knot_of GR b_reached k_reached (PySem.W.mg_of X G a_reached)
  have GN : FnOk l.prog w K mg base CX0 3 f_knots_of _ ["names", "leans"] (spKnots K) := ok_knots F_knots_of GK b_knot_of k_knot_of (PySem.W.mg_of X G a_knot_of)
  exact ok_law F_law T7 ⟨ok_cell F_law_cell_at TL, b_law_cell_at, k_law_cell_at, PySem.W.mg_of X G a_law_cell_at⟩ ⟨ok_namesU F_law_names TL, b_law_names, k_law_names, PySem.W.mg_of X G a_law_names⟩
    ⟨ok_leans F_law_leans (PySem.W.mg_none_of X G z_len), b_law_leans, k_law_leans, PySem.W.mg_of X G a_law_leans⟩ ⟨GN, b_knots_of, k_knots_of, PySem.W.mg_of X G a_knots_of⟩ ⟨ok_ways F_law_ways (PySem.W.mg_none_of X G z_len), b_law_ways, k_law_ways, PySem.W.mg_of X G a_law_ways⟩
theorem walk {l : PySem.W.OpenLaw} {q : Program} {loose : List Str} {XP : (Str → Option Value) → Heap → Prop} {YP : World → Heap → Prop} {d : DefRec} {K : Params → PySem.W.Frag} (hn : l.most = some 63) (hdf : d.params.defaults = [])
    (hY : ∀ (w : World) (h : Heap), YP w h → (K w.params).In h)
    (F : ∀ (w : World) (mg : Str → Option Value) (fa : Addr) (h : Heap), (K w.params).In h → h.Ns mainGlobals mg → mg d.name = some (.ref fa) →
      ∃ fd : FuncData, (∀ (s : Shared) (u : Value), BindsTo s fd ⟨[u], []⟩ [("_law_script", u)]) ∧ ∀ base : Heap, (K w.params).In base → base.Ns mainGlobals mg → FnOk l.prog w (K w.params) mg base CX0 4 fa fd ["_law_script"] (spLaw (K w.params))) :
    PySem.W.WalkO q loose XP YP l.row.toRowW d [] (fun f vs => PySem.call f vs) :=
  L2.walk_of (n := 63) (k := 4) (x := "_law_script") (CX := fun _ => CX0) (sp := fun w => spLaw (K w.params)) hn (by decide) hdf ⟨rfl, by decide, by decide⟩ hY F (fun _ _ a ns hl _ hS => ⟨a, ns, rfl, hS, hl, fun _ => rfl⟩) fun _ _ _ _ _ z => z
end Aw
open PySem PySem.W PyProof.Rows
set_option maxRecDepth 100000 in
set_option maxHeartbeats 0 in
theorem PySem.Challenge.cw_anewhall_k07_knots_of_names_holds : PySem.Challenge.rw_anewhall_k07_knots_of_names.Holds := by
  w_on; o_law; k_head; (case hw => w_witness2)
  k_fill
  refine Aw.walk (l := PySem.Challenge.rw_anewhall_k07_knots_of_names) rfl rfl (fun w h Y => PySem.W.kIn_of Y) ?F
  case F =>
    intro w mg fa h KX G hmg
    refine' Aw.all_mk KX G hmg ?a_knots_of ?l_knots_of ?c_knots_of ?k_knots_of ?a_knot_of ?l_knot_of ?c_knot_of ?k_knot_of ?a_reached ?l_reached ?c_reached ?k_reached ?a_law_cell_at ?l_law_cell_at ?c_law_cell_at ?k_law_cell_at ?a_law_names ?l_law_names ?c_law_names ?k_law_names ?a_law_leans ?l_law_leans ?c_law_leans ?k_law_leans ?a_law_ways ?l_law_ways ?c_law_ways ?k_law_ways ?a_law ?l_law ?c_law ?k_law ?z_len ?z_int ?z_range ?z_str ?z_list ?z_isi
    (case z_len => k_is)
    (case z_int => k_is)
    (case z_range => k_is)
    (case z_str => k_is)
    (case z_list => k_is)
    (case z_isi => k_is)
    (case a_knots_of => k_is)
    (case l_knots_of => k_is)
    (case c_knots_of => k_is)
    (case k_knots_of => k_is)
    (case a_knot_of => k_is)
    (case l_knot_of => k_is)
    (case c_knot_of => k_is)
    (case k_knot_of => k_is)
    (case a_reached => k_is)
    (case l_reached => k_is)
    (case c_reached => k_is)
    (case k_reached => k_is)
    (case a_law_cell_at => k_is)
    (case l_law_cell_at => k_is)
    (case c_law_cell_at => k_is)
    (case k_law_cell_at => k_is)
    (case a_law_names => k_is)
    (case l_law_names => k_is)
    (case c_law_names => k_is)
    (case k_law_names => k_is)
    (case a_law_leans => k_is)
    (case l_law_leans => k_is)
    (case c_law_leans => k_is)
    (case k_law_leans => k_is)
    (case a_law_ways => k_is)
    (case l_law_ways => k_is)
    (case c_law_ways => k_is)
    (case k_law_ways => k_is)
    (case a_law => k_is)
    (case l_law => k_is)
    (case c_law => k_is)
    (case k_law => k_is)

