import PyProof.Rows.All
import Wide.All
import OpenK.AllK
import Wide.FinOn
import HandS.ForMost
import HandS.Exc
import HandS.TryOnly
import HandS.ExcOwn
import HandS.WordsExc
import HandS.Wide
import HandS.FStr
import HandS.RaiseMore
import HandS.WrittenGet
import HandS.Walk
import HandS.Steps
import HandS.Style
import HandS.Flow
import HandS.Conv
import HandS.DictComp
import HandS.IsInst
import HandS.TryMany
import HandS.ExcIs
import HandS.Codes
import HandS.Text
import HandS.EndTab
import KE.KNestM
import PySem.Challenge.RW_anewhall_k36_recipes_spoilt_anywhere
set_option Elab.async false
set_option linter.all false
set_option maxRecDepth 100000
namespace Aw
open PySem L2
/-! ### the mirror: trees, words, the parser, the lexer -/
inductive Kd where
  | sum | least | most
  deriving DecidableEq
def Kd.nm : Kd → Str
  | .sum => "sum"
  | .least => "least"
  | .most => "most"
def Kd.sg : Kd → Str
  | .sum => "+"
  | .least => "&"
  | .most => "|"
inductive T where
  | num (n : Int)
  | name (s : Str)
  | gate (s : Str) (b : Int) (t : T)
  | join (k : Kd) (ts : List T)
/-- a whole number's text -/
def tx (i : Int) : Str := toString i
def wd (ws : List Str) (i : Nat) : Str := ws.getD i Str.empty
def LET : List Nat := (("abcdefghijklmnopqrstuvwxyz" : Str)).cps.toList
def FIG : List Nat := (("0123456789" : Str)).cps.toList
def OTH : List Nat := (("+&|()[]" : Str)).cps.toList
def nameM (s : Str) : Bool := decide (1 ≤ s.length ∧ s.length ≤ 6) && s.cps.toList.all fun c => decide (c ∈ LET)
def numM (lo : Int) (w : Str) : Option Int := ((List.range (31 - lo).toNat).find? fun i => decide (w = tx (lo + (i : Nat)))).map fun i => lo + (i : Nat)
section
variable (ws : List Str)
def chainM (f : Nat → Option (T × Nat)) (sg : Str) : Nat → List T → Nat → Option (List T × Nat)
  | 0, _, _ => none
  | n + 1, ts, j => if wd ws j = sg then
      match f (j + 1) with
      | none => none
      | some (t, j') => chainM f sg n (ts ++ [t]) j'
    else some (ts, j)
/-- what the chain of pieces comes to -/
def joinM (k : Kd) (ts : List T) : Option T := if 8 < ts.length then none else
  match ts with
  | [t] => some t
  | _ => some (.join k ts)
def levelM (f : Nat → Option (T × Nat)) : List Kd → Nat → Option (T × Nat)
  | [], i => f i
  | k :: ks, i =>
    match levelM f ks i with
    | none => none
    | some (t, j) =>
      match chainM ws (levelM f ks) k.sg (ws.length + 1) [t] j with
      | none => none
      | some (ts, j') => (joinM k ts).map fun t => (t, j')
def kinds : List Kd := [.most, .least, .sum]
def gateM (f : Nat → Option (T × Nat)) (i : Nat) : Option (T × Nat) :=
  if nameM (wd ws i) = true then
    match numM 1 (wd ws (i + 1)) with
    | none => none
    | some b => if wd ws (i + 2) = "]" then (f (i + 3)).map fun r => (.gate (wd ws i) b r.1, r.2) else none
  else none
def pieceM : Nat → Nat → Option (T × Nat)
  | 0, _ => none
  | d + 1, i =>
    if wd ws i = "(" then
      match levelM ws (pieceM d) kinds (i + 1) with
      | none => none
      | some (t, j) => if wd ws j = ")" then some (t, j + 1) else none
    else if wd ws i = "[" then gateM ws (pieceM d) (i + 1)
    else if nameM (wd ws i) = true then some (.name (wd ws i), i + 1)
    else (numM 0 (wd ws i)).map fun n => (.num n, i + 1)
end
inductive Kn where
  | letter | figure | other | blank
  deriving DecidableEq
def Kn.nm : Kn → Str
  | .letter => "letter"
  | .figure => "figure"
  | .other => "other"
  | .blank => "blank"
def sg1 (c : Nat) : Str := ⟨#[c]⟩
def kindM (c : Nat) : Option Kn :=
  if c ∈ LET then some .letter else if c ∈ FIG then some .figure else if c ∈ OTH then some .other else if sg1 c = " " then some .blank else none
def addLast (ws : List Str) (c : Nat) : List Str := ws.set (ws.length - 1) (wd ws (ws.length - 1) ++ sg1 c)
def lexStep (st : List Str × Kn) (c : Nat) (k : Kn) : List Str :=
  if k = st.2 ∧ (k = .letter ∨ k = .figure) then addLast st.1 c else if k ≠ .blank then st.1 ++ [sg1 c] else st.1
def lexGo : List Nat → List Str → Kn → Option (List Str)
  | [], ws, _ => some ws
  | c :: r, ws, b =>
    match kindM c with
    | none => none
    | some k => lexGo r (lexStep (ws, b) c k) k
def lexM (z : Str) : Option (List Str) := lexGo z.cps.toList [] .blank
def readM (z : Str) : Option T :=
  if 400 < z.length then none else
  match lexM z with
  | none => none
  | some ws => if 40 < ws.length then none else
    match levelM ws (pieceM ws 3) kinds 0 with
    | none => none
    | some (t, j) => if wd ws j = Str.empty then some t else none
/-! ### the heap -/
/-- all but what stands at p is as it was -/
def But (p : Addr) (H H' : Hp) : Prop := ∀ b o, H b = some o → b ≠ p → H' b = some o
theorem But.refl (p : Addr) (H : Hp) : But p H H := fun _ _ h _ => h
theorem But.trans {p : Addr} {H H1 H2 : Hp} (a : But p H H1) (b : But p H1 H2) : But p H H2 := fun c o h hc => b c o (a c o h hc) hc
theorem But.of_same {p : Addr} {H H1 : Hp} (a : Same H H1) : But p H H1 := fun c o h _ => a c o h
theorem same_new {H : Hp} {p : Addr} (h : H p = none) (o : HO) : Same H (upd H p o) := fun b u q => by rw [upd_ne (ne_of_none q h)]; exact q
theorem same_upd {H H1 : Hp} {D : Addr} (s : Same H H1) (hD : H D = none) (o : HO) : Same H (upd H1 D o) := fun b u q => by rw [upd_ne (ne_of_none q hD)]; exact s b u q
theorem take_more {α : Type} : ∀ {l : List α} {i : Nat} {x : α}, l[i]? = some x → l.take (i + 1) = l.take i ++ [x]
  | [], i, x, h => by simp at h
  | a :: l, 0, x, h => by
    have e : a = x := Option.some.inj h
    subst e
    rfl
  | a :: l, i + 1, x, h => by
    have ih := take_more (l := l) (i := i) (x := x) h
    show a :: l.take (i + 1) = a :: l.take i ++ [x]
    rw [ih]
    rfl
theorem But.upd {p : Addr} {H : Hp} (o : HO) : But p H (upd H p o) := fun b u q hb => by rw [upd_ne hb]; exact q
mutual
inductive TA (H : Hp) : V → T → Prop
  | num {a : Addr} {n : Int} : H a = some (.tup [.str "number", .int n]) → TA H (.ref a) (.num n)
  | name {a : Addr} {s : Str} : H a = some (.tup [.str "name", .str s]) → TA H (.ref a) (.name s)
  | gate {a : Addr} {s : Str} {b : Int} {v : V} {t : T} : H a = some (.tup [.str "gate", .str s, .int b, v]) → TA H v t → TA H (.ref a) (.gate s b t)
  | join {a p : Addr} {k : Kd} {vs : List V} {ts : List T} : H a = some (.tup [.str k.nm, .ref p]) → H p = some (.tup vs) → TAs H vs ts → TA H (.ref a) (.join k ts)
inductive TAs (H : Hp) : List V → List T → Prop
  | nil : TAs H [] []
  | cons {v : V} {t : T} {vs : List V} {ts : List T} : TA H v t → TAs H vs ts → TAs H (v :: vs) (t :: ts)
end
/-- every tuple stays -/
def Tups (H H' : Hp) : Prop := ∀ b xs, H b = some (.tup xs) → H' b = some (.tup xs)
theorem Tups.of_same {H H' : Hp} (h : Same H H') : Tups H H' := fun b _ q => h b _ q
theorem Tups.of_but {H H' : Hp} {p : Addr} (h : But p H H') (hp : ∀ xs, H p ≠ some (.tup xs)) : Tups H H' := fun b xs q => h b _ q fun e => hp xs (e ▸ q)
mutual
theorem TA.mono {H H' : Hp} (h : Tups H H') : ∀ {v : V} {t : T}, TA H v t → TA H' v t
  | _, _, .num e => .num (h _ _ e)
  | _, _, .name e => .name (h _ _ e)
  | _, _, .gate e q => .gate (h _ _ e) (TA.mono h q)
  | _, _, .join e e2 q => .join (h _ _ e) (h _ _ e2) (TAs.mono h q)
theorem TAs.mono {H H' : Hp} (h : Tups H H') : ∀ {v : List V} {t : List T}, TAs H v t → TAs H' v t
  | _, _, .nil => .nil
  | _, _, .cons a b => .cons (TA.mono h a) (TAs.mono h b)
end
theorem TAs.length {H : Hp} {vs : List V} {ts : List T} (h : TAs H vs ts) : vs.length = ts.length := by
  induction vs generalizing ts with
  | nil => cases h; rfl
  | cons v r ih => cases h with | cons a b => rw [List.length_cons, List.length_cons, ih b]
theorem TAs.snoc {H : Hp} {v : V} {t : T} (h1 : TA H v t) : ∀ {vs : List V} {ts : List T}, TAs H vs ts → TAs H (vs ++ [v]) (ts ++ [t])
  | _, _, .nil => .cons h1 .nil
  | _, _, .cons a b => .cons a (TAs.snoc h1 b)
theorem TAs.get {H : Hp} : ∀ {vs : List V} {ts : List T} {i : Nat} {v : V}, TAs H vs ts → vs[i]? = some v → ∃ t, ts[i]? = some t ∧ TA H v t
  | _, _, i, v, .nil, h => by simp at h
  | _, _, 0, v, .cons a b, h => ⟨_, rfl, by have e := Option.some.inj h; exact e ▸ a⟩
  | _, _, i + 1, v, .cons a b, h => by
    obtain ⟨t, h1, h2⟩ := TAs.get b (i := i) (v := v) (by simpa using h)
    exact ⟨t, by simpa using h1, h2⟩
/-! ### the reader of words -/
def rflds (l : Addr) (i : Nat) : List (Str × V) := putF "at" (.int i) (putF "words" (.ref l) [])
theorem wa : ¬ (("words" : Str) = "at") := by decide +kernel
theorem rflds_words (l : Addr) (i : Nat) : (rflds l i).lookup ("words" : Str) = some (.ref l) := by
  unfold rflds
  rw [lookup_putF, if_neg wa, lookup_putF, if_pos rfl]
theorem rflds_at (l : Addr) (i : Nat) : (rflds l i).lookup ("at" : Str) = some (.int i) := by
  unfold rflds
  rw [lookup_putF, if_pos rfl]
theorem rflds_no (l : Addr) (i : Nat) {m : Str} (h1 : ¬ m = "at") (h2 : ¬ m = "words") : (rflds l i).lookup m = none := by
  unfold rflds
  rw [lookup_putF, if_neg h1, lookup_putF, if_neg h2]
  all_goals rfl
theorem rflds_eq (l : Addr) (i : Nat) : rflds l i = ([("words", V.ref l), ("at", V.int i)] : List (Str × V)) := by
  show (if ("words" : Str) = "at" then [(("words" : Str), V.int i)] else (("words" : Str), V.ref l) :: putF "at" (V.int i) []) = ([("words", V.ref l), ("at", V.int i)] : List (Str × V))
  rw [if_neg wa]
  all_goals rfl
theorem rflds_put (l : Addr) (i : Nat) {z : Int} (hz : z = ((i + 1 : Nat) : Int)) : putF "at" (.int z) (rflds l i) = rflds l (i + 1) := by
  subst hz
  rw [rflds_eq, rflds_eq]
  show (if ("words" : Str) = "at" then _ else (("words" : Str), V.ref l) :: (if ("at" : Str) = "at" then [(("at" : Str), V.int ((i + 1 : Nat) : Int))] else _)) = ([("words", V.ref l), ("at", V.int ((i + 1 : Nat) : Int))] : List (Str × V))
  rw [if_neg wa, if_pos rfl]
structure RdAt (C p l : Addr) (ws : List Str) (i : Nat) (H : Hp) : Prop where
  ob : ∃ dx, H p = some (.ins C dx (rflds l i))
  ls : H l = some (.lst (ws.map V.str))
  ln : ws.length ≤ 1000
theorem RdAt.mono {C p l : Addr} {ws : List Str} {i : Nat} {H H' : Hp} (h : RdAt C p l ws i H) (s : Same H H') : RdAt C p l ws i H' := by
  obtain ⟨dx, e⟩ := h.ob
  exact ⟨⟨dx, s _ _ e⟩, s _ _ h.ls, h.ln⟩
theorem RdAt.tups {C p l : Addr} {ws : List Str} {i : Nat} {H H' : Hp} (h : RdAt C p l ws i H) (s : But p H H') : Tups H H' := by
  obtain ⟨dx, e⟩ := h.ob
  exact Tups.of_but s fun xs q => by rw [e] at q; cases q
theorem RdAt.keep {C p l : Addr} {ws : List Str} {i : Nat} {H H' : Hp} (h : RdAt C p l ws i H) (s : But p H H') {a : Addr} {xs : List V} (e : H a = some (.lst xs)) : H' a = some (.lst xs) := by
  obtain ⟨dx, e1⟩ := h.ob
  exact s _ _ e (ne_of e e1 (by intro z; cases z))
theorem RdAt.ne_new {C p l : Addr} {ws : List Str} {i : Nat} {H : Hp} (h : RdAt C p l ws i H) {a : Addr} (e : H a = none) : p ≠ a := by
  obtain ⟨dx, e1⟩ := h.ob
  exact ne_of_none e1 e
theorem wd_get {ws : List Str} {i : Nat} (h : i < ws.length) : ws[i]? = some (wd ws i) := by
  unfold wd
  rw [List.getD_eq_getElem?_getD, List.getElem?_eq_getElem h]
  rfl
theorem wd_end {ws : List Str} {i : Nat} (h : ¬ i < ws.length) : wd ws i = Str.empty := by
  unfold wd
  rw [List.getD_eq_getElem?_getD, List.getElem?_eq_none (by omega)]
  rfl
theorem wd_lt {ws : List Str} {i : Nat} {s : Str} (h : wd ws i = s) (hs : ¬ Str.empty = s) : i < ws.length := by
  rcases Nat.lt_or_ge i ws.length with q | q
  · exact q
  · exact absurd ((wd_end (by omega)).symm.trans h) hs
/-! ### the promises of the reading -/
def spInit (C : Addr) : Sp := fun vs H Q _ => ∃ (p dx l : Addr), vs = [.ref p, .ref l] ∧ H p = some (.ins C dx []) ∧ ∀ (H' : Hp), H' p = some (.ins C dx (rflds l 0)) → But p H H' → Q .non H'
def spAhead (C : Addr) : Sp := fun vs H Q _ => ∃ p l ws i, vs = [.ref p] ∧ RdAt C p l ws i H ∧ Q (.str (wd ws i)) H
def spTaken (C : Addr) : Sp := fun vs H Q _ => ∃ p l ws i, vs = [.ref p] ∧ RdAt C p l ws i H ∧ ∀ H', But p H H' → RdAt C p l ws (i + 1) H' → Q (.str (wd ws i)) H'
def spExpect (C N : Addr) : Sp := fun vs H Q E => ∃ p l ws i z, vs = [.ref p, .str z] ∧ RdAt C p l ws i H ∧ z.length ≤ 1000 ∧ (∀ w ∈ ws, w.length ≤ 1000) ∧
  (wd ws i = z → ∀ H', But p H H' → RdAt C p l ws (i + 1) H' → Q .non H') ∧ (¬ wd ws i = z → ∀ H', But p H H' → E (.ref N) none H')
def spName : Sp := fun vs H Q _ => ∃ z, vs = [.str z] ∧ z.length ≤ 1000 ∧ ∀ H', Same H H' → Q (.bl (nameM z)) H'
def spNum (N : Addr) : Sp := fun vs H Q E => ∃ z lo, vs = [.str z, .int lo] ∧ 0 ≤ lo ∧ lo ≤ 30 ∧ (∀ n, numM lo z = some n → Q (.int n) H) ∧ (numM lo z = none → E (.ref N) none H)
def spKind (N : Addr) : Sp := fun vs H Q E => ∃ c, vs = [.str (sg1 c)] ∧ (∀ k, kindM c = some k → Q (.str k.nm) H) ∧ (kindM c = none → E (.ref N) none H)
def spWords (N : Addr) : Sp := fun vs H Q E => ∃ z, vs = [.str z] ∧ z.length ≤ 1000 ∧ (∀ ws, lexM z = some ws → ∀ l H', Same H H' → H l = none → H' l = some (.lst (ws.map V.str)) → Q (.ref l) H') ∧ (lexM z = none → ∀ H', Same H H' → E (.ref N) none H')
/-- a reading of a piece from the word at i on -/
def RdOut (C N p l : Addr) (ws : List Str) (H : Hp) (Q : VK) (E : XK) : Option (T × Nat) → Prop
  | some (t, j) => ∀ v H', But p H H' → RdAt C p l ws j H' → TA H' v t → Q v H'
  | none => ∀ H', But p H H' → E (.ref N) none H'
structure WsOk (ws : List Str) : Prop where
  ws : ∀ w ∈ ws, w.length ≤ 1000
theorem WsOk.wd {ws : List Str} (h : WsOk ws) (i : Nat) : (wd ws i).length ≤ 1000 := by
  rcases Nat.lt_or_ge i ws.length with q | q
  · exact h.ws _ (List.mem_of_getElem? (wd_get q))
  · rw [wd_end (by omega)]; exact Nat.zero_le _
def spLevel (C N : Addr) (ks : List Kd) (f : List Str → Nat → Option (T × Nat)) (lv dp : Int) : Sp := fun vs H Q E => ∃ p l ws i, vs = [.ref p, .int lv, .int dp] ∧ RdAt C p l ws i H ∧ WsOk ws ∧ RdOut C N p l ws H Q E (levelM ws (f ws) ks i)
def spPiece (C N : Addr) (f : List Str → Nat → Option (T × Nat)) (dp : Int) : Sp := fun vs H Q E => ∃ p l ws i, vs = [.ref p, .int dp] ∧ RdAt C p l ws i H ∧ WsOk ws ∧ RdOut C N p l ws H Q E (f ws i)
def spRead (N : Addr) : Sp := fun vs H Q E => ∃ z, vs = [.str z] ∧ (z.length ≤ sizeLine) ∧ (∀ t, readM z = some t → ∀ v H', Same H H' → TA H' v t → Q v H') ∧ (readM z = none → ∀ H', Same H H' → E (.ref N) none H')
end Aw

namespace Aw
open PySem L2
/-! ### the law's own trees (lists in the place of tuples), dice, names -/
mutual
inductive LA (H : Hp) : V → T → Prop
  | num {a : Addr} {n : Int} : H a = some (.tup [.str "number", .int n]) → LA H (.ref a) (.num n)
  | name {a : Addr} {s : Str} : H a = some (.tup [.str "name", .str s]) → LA H (.ref a) (.name s)
  | gate {a : Addr} {s : Str} {b : Int} {v : V} {t : T} : H a = some (.tup [.str "gate", .str s, .int b, v]) → LA H v t → LA H (.ref a) (.gate s b t)
  | join {a p : Addr} {k : Kd} {vs : List V} {ts : List T} : H a = some (.tup [.str k.nm, .ref p]) → H p = some (.lst vs) → 0 < ts.length → LAs H vs ts → LA H (.ref a) (.join k ts)
inductive LAs (H : Hp) : List V → List T → Prop
  | nil : LAs H [] []
  | cons {v : V} {t : T} {vs : List V} {ts : List T} : LA H v t → LAs H vs ts → LAs H (v :: vs) (t :: ts)
end
theorem LA.isRef {H : Hp} {v : V} {t : T} (h : LA H v t) : ∃ a, v = .ref a := by
  cases h <;> exact ⟨_, rfl⟩
theorem LAs.headRef {H : Hp} {vs : List V} {ts : List T} (h : LAs H vs ts) (h0 : 0 < ts.length) : ∃ a r, vs = .ref a :: r := by
  cases h with
  | nil => exact absurd h0 (Nat.lt_irrefl 0)
  | cons a b =>
    obtain ⟨x, rfl⟩ := a.isRef
    exact ⟨x, _, rfl⟩
/-- tuples stay, and lists that begin with an object -/
def Keep (H H' : Hp) : Prop := (∀ b xs, H b = some (.tup xs) → H' b = some (.tup xs)) ∧ ∀ b a r, H b = some (.lst (.ref a :: r)) → H' b = some (.lst (.ref a :: r))
theorem Keep.of_same {H H' : Hp} (h : Same H H') : Keep H H' := ⟨fun b _ q => h b _ q, fun b _ _ q => h b _ q⟩
theorem Keep.of_but {H H' : Hp} {p : Addr} (h : But p H H') (hp : ∃ i r, H p = some (.lst (.int i :: r))) : Keep H H' := by
  obtain ⟨i, r, e⟩ := hp
  refine ⟨fun b xs q => h b _ q (fun z => ?_), fun b a r' q => h b _ q (fun z => ?_)⟩
  · subst z; rw [e] at q; cases q
  · subst z; rw [e] at q; cases q
mutual
theorem LA.mono {H H' : Hp} (h : Keep H H') : ∀ {v : V} {t : T}, LA H v t → LA H' v t
  | _, _, .num e => .num (h.1 _ _ e)
  | _, _, .name e => .name (h.1 _ _ e)
  | _, _, .gate e q => .gate (h.1 _ _ e) (LA.mono h q)
  | _, _, .join e e2 h0 q => .join (h.1 _ _ e) (by obtain ⟨a, r, rfl⟩ := q.headRef h0; exact h.2 _ _ _ e2) h0 (LAs.mono h q)
theorem LAs.mono {H H' : Hp} (h : Keep H H') : ∀ {v : List V} {t : List T}, LAs H v t → LAs H' v t
  | _, _, .nil => .nil
  | _, _, .cons a b => .cons (LA.mono h a) (LAs.mono h b)
end
theorem LAs.length {H : Hp} {vs : List V} {ts : List T} (h : LAs H vs ts) : vs.length = ts.length := by
  induction vs generalizing ts with
  | nil => cases h; rfl
  | cons v r ih => cases h with | cons a b => rw [List.length_cons, List.length_cons, ih b]
theorem LAs.snoc {H : Hp} {v : V} {t : T} (h1 : LA H v t) : ∀ {vs : List V} {ts : List T}, LAs H vs ts → LAs H (vs ++ [v]) (ts ++ [t])
  | _, _, .nil => .cons h1 .nil
  | _, _, .cons a b => .cons a (LAs.snoc h1 b)
theorem LAs.get {H : Hp} : ∀ {vs : List V} {ts : List T} {i : Nat} {v : V}, LAs H vs ts → vs[i]? = some v → ∃ t, ts[i]? = some t ∧ LA H v t
  | _, _, i, v, .nil, h => by simp at h
  | _, _, 0, v, .cons a b, h => ⟨_, rfl, by have e := Option.some.inj h; exact e ▸ a⟩
  | _, _, i + 1, v, .cons a b, h => by
    obtain ⟨t, h1, h2⟩ := LAs.get b (i := i) (v := v) (by simpa using h)
    exact ⟨t, by simpa using h1, h2⟩
/-- what a drawn tree keeps: at most d storeys -/
def TOk (P : Str → Prop) : Nat → T → Prop
  | _, .num n => 0 ≤ n ∧ n ≤ 30
  | _, .name s => P s
  | 0, .gate _ _ _ => False
  | 0, .join _ _ => False
  | d + 1, .gate s b t => P s ∧ 1 ≤ b ∧ b ≤ 30 ∧ TOk P d t
  | d + 1, .join _ ts => 2 ≤ ts.length ∧ ts.length ≤ 3 ∧ ∀ t ∈ ts, TOk P d t
theorem TOk.num {P : Str → Prop} {d : Nat} {n : Int} (h : TOk P d (.num n)) : 0 ≤ n ∧ n ≤ 30 := by cases d <;> exact h
theorem TOk.name {P : Str → Prop} {d : Nat} {s : Str} (h : TOk P d (.name s)) : P s := by cases d <;> exact h
theorem TOk.mkNum {P : Str → Prop} {d : Nat} {n : Int} (h : 0 ≤ n ∧ n ≤ 30) : TOk P d (.num n) := by cases d <;> exact h
theorem TOk.mkName {P : Str → Prop} {d : Nat} {s : Str} (h : P s) : TOk P d (.name s) := by cases d <;> exact h
theorem TOk.imp {P P' : Str → Prop} (hp : ∀ s, P s → P' s) : ∀ (d : Nat) {t : T}, TOk P d t → TOk P' d t
  | 0, .num _, h => h
  | 0, .name _, h => hp _ h
  | 0, .gate _ _ _, h => h
  | 0, .join _ _, h => h
  | d + 1, .num _, h => h
  | d + 1, .name _, h => hp _ h
  | d + 1, .gate _ _ _, h => ⟨hp _ h.1, h.2.1, h.2.2.1, TOk.imp hp d h.2.2.2⟩
  | d + 1, .join _ _, h => ⟨h.1, h.2.1, fun t ht => TOk.imp hp d (h.2.2 t ht)⟩
def NameOk (s : Str) : Prop := nameM s = true
def DiceAt (H : Hp) (d : Addr) : Prop := ∃ x y : Int, H d = some (.lst [.int x, .int y]) ∧ 0 ≤ x ∧ x < 2147483647 ∧ 0 ≤ y
theorem DiceAt.mono {H H' : Hp} {d : Addr} (h : DiceAt H d) (s : Same H H') : DiceAt H' d := by
  obtain ⟨x, y, e, q⟩ := h
  exact ⟨x, y, s _ _ e, q⟩
theorem DiceAt.keep {H H' : Hp} {d : Addr} (h : DiceAt H d) (b : But d H H') : Keep H H' := by
  obtain ⟨x, y, e, q⟩ := h
  exact .of_but b ⟨x, _, e⟩
/-- what is new in H' -/
def fresh (H H' : Hp) : Hp := fun b => match H b with
  | none => H' b
  | some _ => none
def hide (D : Addr) (G : Hp) : Hp := fun b => if b = D then none else G b
theorem fresh_at {H H' : Hp} {p : Addr} {o : HO} (h : H p = none) (e : H' p = some o) : fresh H H' p = some o := by
  unfold fresh
  rw [h]
  exact e
theorem fresh_inv {H H' : Hp} {p : Addr} {o : HO} (h : fresh H H' p = some o) : H p = none ∧ H' p = some o := by
  unfold fresh at h
  cases e : H p with
  | none => rw [e] at h; exact ⟨rfl, h⟩
  | some u => rw [e] at h; cases h
theorem fresh_sub {H H' : Hp} : Same (fresh H H') H' := fun b o h => (fresh_inv h).2
theorem free_of {H H' : Hp} {dd p : Addr} (D : DiceAt H' dd) (b : But dd H H') (h : H' p = none) : H p = none := by
  cases e : H p with
  | none => rfl
  | some o =>
    by_cases c : p = dd
    · subst c
      obtain ⟨x, y, e2, _⟩ := D
      rw [h] at e2
      cases e2
    · have := b p o e c
      rw [h] at this
      cases this
/-- what a callee made new is new for the caller too -/
theorem fresh_step {H H1 H2 H3 : Hp} {dd : Addr} (D : DiceAt H1 dd) (b : But dd H H1) (s : Same H2 H3) : Same (fresh H1 H2) (fresh H H3) := fun p o h => by
  obtain ⟨h1, h2⟩ := fresh_inv h
  exact fresh_at (free_of D b h1) (s p o h2)
/-! ### how a tree is written -/
def Kd.rank : Kd → Int
  | .most => 1
  | .least => 2
  | .sum => 3
def sp1 : Str := " "
def Kd.sep (k : Kd) : Str := sp1 ++ k.sg ++ sp1
mutual
def wr (firm : Int) : T → Str
  | .num n => tx n
  | .name s => s
  | .gate s b t => "[" ++ s ++ " " ++ tx b ++ "] " ++ wr 4 t
  | .join k ts => if k.rank < firm then "(" ++ wrs k.sep (k.rank + 1) ts ++ ")" else wrs k.sep (k.rank + 1) ts
def wrs (sep : Str) (firm : Int) : List T → Str
  | [] => Str.empty
  | [t] => wr firm t
  | t :: r => wr firm t ++ sep ++ wrs sep firm r
end
theorem app_assoc (a b c : Str) : a ++ b ++ c = a ++ (b ++ c) := by
  show (⟨(a.cps ++ b.cps) ++ c.cps⟩ : Str) = ⟨a.cps ++ (b.cps ++ c.cps)⟩
  rw [Array.append_assoc]
theorem len_app' (a b : Str) : (a ++ b).length = a.length + b.length := by
  show (a.cps ++ b.cps).size = _
  rw [Array.size_append] <;> rfl
theorem wrs_one (sep : Str) (f : Int) (t : T) : wrs sep f [t] = wr f t := by unfold wrs; rfl
theorem wrs_two (sep : Str) (f : Int) (t u : T) (r : List T) : wrs sep f (t :: u :: r) = wr f t ++ sep ++ wrs sep f (u :: r) := by conv => lhs; unfold wrs
theorem wrs_snoc (sep : Str) (f : Int) (t : T) : ∀ {ts : List T}, ts ≠ [] → wrs sep f (ts ++ [t]) = wrs sep f ts ++ sep ++ wr f t
  | [], h => absurd rfl h
  | [u], _ => by
    show wrs sep f [u, t] = _
    rw [wrs_two, wrs_one, wrs_one]
  | u :: v :: r, _ => by
    show wrs sep f (u :: v :: (r ++ [t])) = _
    rw [wrs_two, wrs_two]
    have ih := wrs_snoc sep f t (ts := v :: r) (by intro z; cases z)
    rw [show v :: (r ++ [t]) = (v :: r) ++ [t] from rfl, ih, app_assoc, app_assoc, app_assoc, app_assoc, app_assoc]
theorem tx_len {n : Int} (h : 0 ≤ n ∧ n ≤ 30) : (tx n).length ≤ 2 := by
  have q : ∀ k : Nat, k < 31 → (tx (k : Int)).length ≤ 2 := by decide +kernel
  have e := q n.toNat (by omega)
  rwa [show ((n.toNat : Nat) : Int) = n by omega] at e
def LB : Nat → Nat
  | 0 => 6
  | d + 1 => 3 * LB d + 20
theorem LB_six : ∀ d, 6 ≤ LB d
  | 0 => Nat.le_refl 6
  | d + 1 => by have := LB_six d; show 6 ≤ 3 * LB d + 20; omega
theorem sep_len (k : Kd) : k.sep.length = 3 := by cases k <;> decide +kernel
theorem wrs_len {sep : Str} {f : Int} {B : Nat} (hs : sep.length = 3) : ∀ {ts : List T}, ts ≠ [] → (∀ t ∈ ts, (wr f t).length ≤ B) → (wrs sep f ts).length + 3 ≤ ts.length * (B + 3)
  | [], h, _ => absurd rfl h
  | [u], _, h => by
    rw [wrs_one]
    have := h u (List.mem_singleton.mpr rfl)
    show _ ≤ 1 * (B + 3)
    omega
  | u :: v :: r, _, h => by
    rw [wrs_two, len_app', len_app', hs]
    have ih := wrs_len hs (ts := v :: r) (f := f) (by intro z; cases z) fun t ht => h t (List.mem_cons_of_mem _ ht)
    have h1 := h u List.mem_cons_self
    have e : (u :: v :: r).length * (B + 3) = (v :: r).length * (B + 3) + (B + 3) := by
      rw [List.length_cons (a := u), Nat.add_mul, Nat.one_mul]
    omega
theorem wr_len {P : Str → Prop} (hP : ∀ s, P s → s.length ≤ 6) : ∀ (d : Nat) {t : T} (f : Int), TOk P d t → (wr f t).length ≤ LB d
  | d, .num n, f, h => by
    have := tx_len h.num
    have := LB_six d
    unfold wr
    omega
  | d, .name s, f, h => by
    have := hP _ h.name
    have := LB_six d
    unfold wr
    omega
  | 0, .gate _ _ _, _, h => h.elim
  | 0, .join _ _, _, h => h.elim
  | d + 1, .gate s b t, f, h => by
    obtain ⟨h1, h2, h3, h4⟩ := h
    have e1 := hP _ h1
    have e2 := tx_len (n := b) ⟨by omega, h3⟩
    have e3 := wr_len hP d 4 h4
    unfold wr
    rw [len_app', len_app', len_app', len_app', len_app']
    have c1 : ("[" : Str).length = 1 := by decide +kernel
    have c2 : (" " : Str).length = 1 := by decide +kernel
    have c3 : ("] " : Str).length = 2 := by decide +kernel
    show _ ≤ 3 * LB d + 20
    omega
  | d + 1, .join k ts, f, h => by
    obtain ⟨h1, h2, h3⟩ := h
    have hne : ts ≠ [] := by intro z; subst z; simp at h1
    have e := wrs_len (f := k.rank + 1) (B := LB d) (sep_len k) hne fun t ht => wr_len hP d _ (h3 t ht)
    have e2 : ts.length * (LB d + 3) ≤ 3 * (LB d + 3) := Nat.mul_le_mul_right _ h2
    have c1 : ("(" : Str).length = 1 := by decide +kernel
    have c2 : (")" : Str).length = 1 := by decide +kernel
    unfold wr
    show _ ≤ 3 * LB d + 20
    split
    · rw [len_app', len_app']; omega
    · omega
end Aw

namespace Aw
open PySem L2
/-! ### walks in general: a comprehension's turns over whatever stands still -/
theorem walk_gen {J : It} {n : Nat} {G : Hp → Prop} {Y : Nat → Hp → V → Hp → Prop} (w : Walk J n G Y) {B : V → Hp → (Hp → Prop) → Prop} {Qd : Hp → Prop} {Hs : Hp} (Pv : Nat → Hp → Prop) (h0 : Pv 0 Hs) (hG : ∀ i H, i ≤ n → Pv i H → G H)
    (hs : ∀ i x H H', i < n → Pv i H → Y i H x H' → B x H' (Pv (i + 1))) (hd : ∀ H, Pv n H → Qd H) :
    ∃ W : Nat → Nat → Hp → Prop, (∃ m, W 0 m Hs) ∧ ∀ i m H, W i m H → (J.stop i H ∧ Qd H) ∨ (J.go i H ∧ ∃ Nx : Hp → Prop, (∀ H', Nx H' → ∃ m', m' < m ∧ W (i + 1) m' H') ∧ ∀ x H', J.yld i H x H' → B x H' Nx) := by
  refine ⟨fun i m H => m = n - i ∧ i ≤ n ∧ Pv i H, ⟨n, by simp, Nat.zero_le _, h0⟩, ?_⟩
  rintro i m H ⟨rfl, hi, p⟩
  have q := hG i H hi p
  by_cases hlt : i < n
  · exact .inr ⟨w.goes i H hlt q, Pv (i + 1), fun H' p' => ⟨n - (i + 1), by omega, rfl, hlt, p'⟩, fun x H' y => hs i x H H' hlt p (w.yields i H x H' hlt q y)⟩
  · have e : i = n := by omega
    subst e
    exact .inl ⟨w.stops H q, hd H p⟩
/-! ### the names that stand in a tree -/
mutual
def named : T → List Str
  | .num _ => []
  | .name s => [s]
  | .gate s _ t => s :: named t
  | .join _ ts => nameds ts
def nameds : List T → List Str
  | [] => []
  | t :: r => named t ++ nameds r
end
theorem nameds_take {ts : List T} {i : Nat} {t : T} (h : ts[i]? = some t) : nameds (ts.take (i + 1)) = nameds (ts.take i) ++ named t := by
  rw [take_more h]
  generalize ts.take i = l
  induction l with
  | nil =>
    show named t ++ nameds [] = [] ++ named t
    simp [nameds]
  | cons u r ih =>
    show named u ++ nameds (r ++ [t]) = (named u ++ nameds r) ++ named t
    rw [ih, List.append_assoc]
def NB : Nat → Nat
  | 0 => 1
  | d + 1 => 3 * NB d + 1
theorem NB_one : ∀ d, 1 ≤ NB d
  | 0 => Nat.le_refl 1
  | d + 1 => by show 1 ≤ 3 * NB d + 1; omega
theorem nameds_len {B : Nat} : ∀ {ts : List T}, (∀ t ∈ ts, (named t).length ≤ B) → (nameds ts).length ≤ ts.length * B
  | [], _ => Nat.zero_le _
  | t :: r, h => by
    have ih := nameds_len (ts := r) fun u hu => h u (List.mem_cons_of_mem _ hu)
    have h1 := h t List.mem_cons_self
    show (named t ++ nameds r).length ≤ _
    rw [List.length_append, List.length_cons, Nat.add_mul, Nat.one_mul]
    omega
theorem named_len {P : Str → Prop} : ∀ (d : Nat) {t : T}, TOk P d t → (named t).length ≤ NB d
  | d, .num _, _ => Nat.zero_le _
  | d, .name _, _ => NB_one d
  | 0, .gate _ _ _, h => h.elim
  | 0, .join _ _, h => h.elim
  | d + 1, .gate s n t, h => by
    have e := named_len d h.2.2.2
    show (named t).length + 1 ≤ 3 * NB d + 1
    omega
  | d + 1, .join k ts, h => by
    obtain ⟨h1, h2, h3⟩ := h
    have e := nameds_len (ts := ts) fun t ht => named_len d (h3 t ht)
    have e2 : ts.length * NB d ≤ 3 * NB d := Nat.mul_le_mul_right _ h2
    show (nameds ts).length ≤ 3 * NB d + 1
    omega
theorem NB_le : ∀ {d : Nat}, d ≤ 2 → NB d ≤ 13
  | 0, _ => by decide
  | 1, _ => by decide
  | 2, _ => by decide
  | _ + 3, h => by omega
/-- each once, in the order in which they stand first -/
def addN (acc : List Str) (s : Str) : List Str := if s ∈ acc then acc else acc ++ [s]
def once (l : List Str) : List Str := l.foldl addN []
theorem once_take {l : List Str} {i : Nat} {s : Str} (h : l[i]? = some s) : once (l.take (i + 1)) = addN (once (l.take i)) s := by
  unfold once
  rw [take_more h, List.foldl_append]
  rfl
theorem addN_len (acc : List Str) (s : Str) : (addN acc s).length ≤ acc.length + 1 := by
  unfold addN
  split
  · omega
  · rw [List.length_append, List.length_singleton]; omega
theorem once_len (l : List Str) : (once l).length ≤ l.length := by
  have g : ∀ (l acc : List Str), (l.foldl addN acc).length ≤ acc.length + l.length := by
    intro l
    induction l with
    | nil => intro acc; exact Nat.le_refl _
    | cons s r ih =>
      intro acc
      have h1 := ih (addN acc s)
      have h2 := addN_len acc s
      rw [List.foldl_cons, List.length_cons]
      omega
  have := g l []
  simpa [once] using this
/-- the dict of the names, each with True -/
def nkvs (l : List Str) : List (Key × V) := l.map fun s => (Sum.inr s, .bl true)
theorem nkvs_put (l : List Str) (s : Str) : putK (nkvs l) (Sum.inr s) (.bl true) = nkvs (addN l s) := by
  unfold putK
  have e : ((nkvs l).any fun kv => decide (kv.1 = Sum.inr s)) = decide (s ∈ l) := by
    unfold nkvs
    rw [List.any_map]
    induction l with
    | nil => rfl
    | cons a r ih =>
      rw [List.any_cons, ih]
      show (decide ((Sum.inr a : Key) = Sum.inr s) || decide (s ∈ r)) = decide (s ∈ a :: r)
      by_cases c : a = s
      · subst c; simp
      · have c2 : ¬ (Sum.inr a : Key) = Sum.inr s := by intro z; exact c (Sum.inr.inj z)
        rw [decide_eq_false c2, Bool.false_or]
        have : (s ∈ a :: r) ↔ s ∈ r := by
          rw [List.mem_cons]
          exact ⟨fun h => h.elim (fun z => absurd z.symm c) id, .inr⟩
        exact decide_eq_decide.mpr this.symm
  rw [e]
  unfold addN
  by_cases c : s ∈ l
  · rw [decide_eq_true c, if_pos rfl, if_pos c]
    have : (nkvs l).map (fun kv => if kv.1 = (Sum.inr s : Key) then (kv.1, V.bl true) else kv) = nkvs l := by
      unfold nkvs
      rw [List.map_map]
      apply List.map_congr_left
      intro a _
      show (if (Sum.inr a : Key) = Sum.inr s then ((Sum.inr a : Key), V.bl true) else ((Sum.inr a : Key), V.bl true)) = _
      split <;> rfl
    exact this
  · rw [decide_eq_false c, if_neg Bool.false_ne_true, if_neg c]
    unfold nkvs
    rw [List.map_append]
    rfl
theorem nkvs_keys (l : List Str) : (nkvs l).map (fun kv => kV kv.1) = l.map V.str := by
  unfold nkvs
  rw [List.map_map]
  rfl
theorem dp_strs {K : PySem.W.Frag} {H : Hp} : ∀ (l : List Str), DpAll K H (l.map V.str) (l.map PyData.str)
  | [] => .nil
  | s :: r => .cons (.str s) (dp_strs r)
theorem in_strs (s : Str) (l : List Str) : inV (.str s) (l.map V.str) = decide (s ∈ l) := by
  unfold inV
  rw [List.any_map]
  induction l with
  | nil => rfl
  | cons a r ih =>
    rw [List.any_cons, ih]
    show ((a == s) || decide (s ∈ r)) = decide (s ∈ a :: r)
    by_cases c : a = s
    · subst c; simp
    · have e : (a == s) = false := beq_eq_false_iff_ne.mpr c
      rw [e, Bool.false_or]
      have : (s ∈ a :: r) ↔ s ∈ r := by
        rw [List.mem_cons]
        exact ⟨fun h => h.elim (fun z => absurd z.symm c) id, .inr⟩
      exact decide_eq_decide.mpr this.symm
theorem flat_strs (l : List Str) : (l.map V.str).all flatV = true := by
  rw [List.all_map, List.all_eq_true]
  intro _ _
  rfl
theorem strOk_name {s : Str} (h : NameOk s) : PyData.strOk s = true := by
  unfold NameOk nameM at h
  have q := (Bool.and_eq_true_iff.mp h).2
  have q2 : ∀ c ∈ LET, c < 0x110000 := by decide +kernel
  unfold PyData.strOk
  rw [← Array.all_toList, List.all_eq_true]
  exact fun c hc => decide_eq_true (q2 c (of_decide_eq_true (List.all_eq_true.mp q c hc)))
theorem can_strs : ∀ (l : List Str), (∀ s ∈ l, NameOk s) → PyData.canLayAll0 (l.map PyData.str) = true
  | [], _ => by simp [PyData.canLayAll0]
  | s :: r, h => by
    show (PyData.canLay0 (.str s) && PyData.canLayAll0 (r.map PyData.str)) = true
    rw [can_strs r fun u hu => h u (List.mem_cons_of_mem _ hu), Bool.and_true]
    unfold PyData.canLay0
    exact strOk_name (h s List.mem_cons_self)
theorem depth_strs : ∀ (l : List Str), PyData.depthAll (l.map PyData.str) ≤ 1
  | [] => by show PyData.depthAll [] ≤ 1; unfold PyData.depthAll; omega
  | s :: r => by
    have ih := depth_strs r
    show max (PyData.depth (.str s)) (PyData.depthAll (r.map PyData.str)) ≤ 1
    have e : PyData.depth (.str s) ≤ 1 := by unfold PyData.depth; omega
    omega
theorem shaped_strs {l : List Str} (h : ∀ s ∈ l, NameOk s) : SeqAt.shaped (.list (l.map PyData.str)) = true := by
  unfold SeqAt.shaped
  have e1 : PyData.canLay0 (.list (l.map PyData.str)) = true := by unfold PyData.canLay0; exact can_strs l h
  have e2 : PyData.depth (.list (l.map PyData.str)) ≤ 64 := by
    have := depth_strs l
    unfold PyData.depth
    omega
  rw [e1, decide_eq_true e2]
  rfl
theorem eqv_strs {l : List Str} (h : ∀ s ∈ l, NameOk s) : PyData.eqv (.list (l.map PyData.str)) (.list (l.map PyData.str)) = true := by
  refine SeqAt.eqv_refl _ ?_
  unfold PyData.canLay0
  exact can_strs l h
mutual
theorem named_ok {P : Str → Prop} : ∀ (d : Nat) {t : T}, TOk P d t → ∀ s ∈ named t, P s
  | d, .num _, _, s, hs => by cases hs
  | d, .name z, h, s, hs => by rw [List.mem_singleton.mp hs]; exact h.name
  | 0, .gate _ _ _, h, _, _ => h.elim
  | 0, .join _ _, h, _, _ => h.elim
  | d + 1, .gate z n t, h, s, hs => by
    rcases List.mem_cons.mp hs with q | q
    · rw [q]; exact h.1
    · exact named_ok d h.2.2.2 s q
  | d + 1, .join k ts, h, s, hs => nameds_ok d h.2.2 s hs
theorem nameds_ok {P : Str → Prop} : ∀ (d : Nat) {ts : List T}, (∀ t ∈ ts, TOk P d t) → ∀ s ∈ nameds ts, P s
  | d, [], _, s, hs => by cases hs
  | d, t :: r, h, s, hs => by
    rcases List.mem_append.mp (show s ∈ named t ++ nameds r from hs) with q | q
    · exact named_ok d (h t List.mem_cons_self) s q
    · exact nameds_ok d (fun u hu => h u (List.mem_cons_of_mem _ hu)) s q
end
theorem addN_mem {acc : List Str} {s x : Str} (h : x ∈ addN acc s) : x ∈ acc ∨ x = s := by
  unfold addN at h
  split at h
  · exact .inl h
  · rcases List.mem_append.mp h with q | q
    · exact .inl q
    · exact .inr (List.mem_singleton.mp q)
theorem once_mem {l : List Str} {x : Str} (h : x ∈ once l) : x ∈ l := by
  have g : ∀ (l acc : List Str), x ∈ l.foldl addN acc → x ∈ acc ∨ x ∈ l := by
    intro l
    induction l with
    | nil => intro acc h; exact .inl h
    | cons s r ih =>
      intro acc h
      rcases ih _ h with q | q
      · rcases addN_mem q with z | z
        · exact .inl z
        · exact .inr (z ▸ List.mem_cons_self)
      · exact .inr (List.mem_cons_of_mem _ q)
  rcases g l [] h with q | q
  · cases q
  · exact q
end Aw

namespace Aw
open PySem L2
/-! ### the words of a written tree -/
def Kd.rk : Kd → Nat
  | .most => 1
  | .least => 2
  | .sum => 3
theorem Kd.rk_rank (k : Kd) : k.rank = (k.rk : Int) := by cases k <;> rfl
mutual
def ww (f : Nat) : T → List Str
  | .num n => [tx n]
  | .name s => [s]
  | .gate s b t => "[" :: s :: tx b :: "]" :: ww 4 t
  | .join k ts => if k.rk < f then "(" :: (wws (k.rk + 1) k.sg ts ++ ([(")" : Str)] : List Str)) else wws (k.rk + 1) k.sg ts
def wws (f : Nat) (sg : Str) : List T → List Str
  | [] => []
  | t :: r => ww f t ++ wwr f sg r
def wwr (f : Nat) (sg : Str) : List T → List Str
  | [] => []
  | t :: r => sg :: (ww f t ++ wwr f sg r)
end
/-! ### the lexer over a written tree -/
theorem str_eta (z : Str) : (⟨z.cps.toList.toArray⟩ : Str) = z := by cases z; rfl
theorem lex_other {c : Nat} (h : kindM c = some .other) (r : List Nat) (ws : List Str) (b : Kn) : lexGo (c :: r) ws b = lexGo r (ws ++ [sg1 c]) .other := by
  conv => lhs; unfold lexGo
  rw [h]
  show lexGo r (lexStep (ws, b) c .other) .other = _
  unfold lexStep
  rw [if_neg (by rintro ⟨_, h | h⟩ <;> cases h), if_pos (by intro z; cases z)]
theorem lex_blank {c : Nat} (h : kindM c = some .blank) (r : List Nat) (ws : List Str) (b : Kn) : lexGo (c :: r) ws b = lexGo r ws .blank := by
  conv => lhs; unfold lexGo
  rw [h]
  show lexGo r (lexStep (ws, b) c .blank) .blank = _
  unfold lexStep
  rw [if_neg (by rintro ⟨_, h | h⟩ <;> cases h), if_neg (by intro z; exact z rfl)]
def Sep (b : Kn) : Prop := b = .other ∨ b = .blank
/-- the signs of one kind in a row -/
theorem lex_more {k : Kn} (hk : k = .letter ∨ k = .figure) (rest : List Nat) (ws : List Str) : ∀ (cs : List Nat) (z : Str), (∀ c ∈ cs, kindM c = some k) → lexGo (cs ++ rest) (ws ++ [z]) k = lexGo rest (ws ++ [z ++ ⟨cs.toArray⟩]) k
  | [], z, _ => by
    have e : z ++ (⟨([] : List Nat).toArray⟩ : Str) = z := by
      show (⟨z.cps ++ #[]⟩ : Str) = z
      rw [Array.append_empty]
    rw [e]
    rfl
  | c :: r, z, h => by
    rw [List.cons_append]
    conv => lhs; unfold lexGo
    rw [h c List.mem_cons_self]
    show lexGo (r ++ rest) (lexStep (ws ++ [z], k) c k) k = _
    have e : lexStep (ws ++ [z], k) c k = ws ++ [z ++ sg1 c] := by
      unfold lexStep
      rw [if_pos ⟨rfl, hk⟩]
      unfold addLast
      dsimp only
      have hl : (ws ++ [z]).length - 1 = ws.length := by rw [List.length_append, List.length_singleton]; omega
      have hw : wd (ws ++ [z]) ws.length = z := by
        unfold wd
        rw [List.getD_eq_getElem?_getD, List.getElem?_append_right (Nat.le_refl _), Nat.sub_self]
        rfl
      rw [hl, hw, List.set_append_right _ _ (Nat.le_refl _), Nat.sub_self]
      rfl
    rw [e, lex_more hk rest ws r (z ++ sg1 c) fun x hx => h x (List.mem_cons_of_mem _ hx)]
    congr 3
    show (⟨(z.cps ++ #[c]) ++ r.toArray⟩ : Str) = ⟨z.cps ++ (c :: r).toArray⟩
    congr 1
    rw [Array.append_assoc]
    congr 1
    simp
theorem lex_word {k : Kn} (hk : k = .letter ∨ k = .figure) {z : Str} (hz : 1 ≤ z.length) (h : ∀ c ∈ z.cps.toList, kindM c = some k) (rest : List Nat) (ws : List Str) {b : Kn} (hb : Sep b) : lexGo (z.cps.toList ++ rest) ws b = lexGo rest (ws ++ [z]) k := by
  cases e : z.cps.toList with
  | nil =>
    have : z.length = z.cps.toList.length := (Array.length_toList).symm
    rw [e] at this
    rw [this] at hz
    exact absurd hz (by decide)
  | cons c r =>
    rw [e] at h
    rw [List.cons_append]
    conv => lhs; unfold lexGo
    rw [h c List.mem_cons_self]
    show lexGo (r ++ rest) (lexStep (ws, b) c k) k = _
    have e1 : lexStep (ws, b) c k = ws ++ [sg1 c] := by
      unfold lexStep
      rw [if_neg (by rintro ⟨q, _⟩; dsimp only at q; subst q; rcases hb with q | q <;> rcases hk with p | p <;> (rw [p] at q; cases q)), if_pos (by intro q; subst q; rcases hk with p | p <;> cases p)]
    rw [e1, lex_more hk rest ws r (sg1 c) fun x hx => h x (List.mem_cons_of_mem _ hx)]
    congr 3
    show (⟨#[c] ++ r.toArray⟩ : Str) = z
    rw [← str_eta z, e]
    congr 1
    simp
theorem kind_let {c : Nat} (h : c ∈ LET) : kindM c = some .letter := by unfold kindM; rw [if_pos h]
theorem kind_fig {c : Nat} (h : c ∈ FIG) : kindM c = some .figure := by
  have q : ∀ c ∈ FIG, kindM c = some .figure := by decide +kernel
  exact q c h
theorem name_facts {s : Str} (h : NameOk s) : 1 ≤ s.length ∧ s.length ≤ 6 ∧ ∀ c ∈ s.cps.toList, c ∈ LET := by
  unfold NameOk nameM at h
  have q := Bool.and_eq_true_iff.mp h
  have q1 := of_decide_eq_true q.1
  exact ⟨q1.1, q1.2, fun c hc => of_decide_eq_true (List.all_eq_true.mp q.2 c hc)⟩
theorem lex_name {s : Str} (h : NameOk s) (rest : List Nat) (ws : List Str) {b : Kn} (hb : Sep b) : lexGo (s.cps.toList ++ rest) ws b = lexGo rest (ws ++ [s]) .letter := by
  obtain ⟨h1, _, h3⟩ := name_facts h
  exact lex_word (.inl rfl) h1 (fun c hc => kind_let (h3 c hc)) rest ws hb
theorem num_facts {n : Int} (h : 0 ≤ n ∧ n ≤ 30) : 1 ≤ (tx n).length ∧ (∀ c ∈ (tx n).cps.toList, c ∈ FIG) ∧ numM 0 (tx n) = some n ∧ nameM (tx n) = false ∧ ¬ tx n = "(" ∧ ¬ tx n = "[" := by
  have q : ∀ k : Nat, k < 31 → 1 ≤ (tx (k : Int)).length ∧ (∀ c ∈ (tx (k : Int)).cps.toList, c ∈ FIG) ∧ numM 0 (tx (k : Int)) = some (k : Int) ∧ nameM (tx (k : Int)) = false ∧ ¬ tx (k : Int) = "(" ∧ ¬ tx (k : Int) = "[" := by decide +kernel
  have e := q n.toNat (by omega)
  rwa [show ((n.toNat : Nat) : Int) = n by omega] at e
theorem bound_facts {n : Int} (h : 1 ≤ n ∧ n ≤ 30) : numM 1 (tx n) = some n := by
  have q : ∀ k : Nat, k < 31 → 1 ≤ k → numM 1 (tx (k : Int)) = some (k : Int) := by decide +kernel
  have e := q n.toNat (by omega) (by omega)
  rwa [show ((n.toNat : Nat) : Int) = n by omega] at e
theorem lex_num {n : Int} (h : 0 ≤ n ∧ n ≤ 30) (rest : List Nat) (ws : List Str) {b : Kn} (hb : Sep b) : lexGo ((tx n).cps.toList ++ rest) ws b = lexGo rest (ws ++ [tx n]) .figure := by
  obtain ⟨h1, h3, _⟩ := num_facts h
  exact lex_word (.inr rfl) h1 (fun c hc => kind_fig (h3 c hc)) rest ws hb
theorem cps_app (a b : Str) : (a ++ b).cps.toList = a.cps.toList ++ b.cps.toList := by
  show (a.cps ++ b.cps).toList = _
  rw [Array.toList_append]
theorem lex_sep (k : Kd) (rest : List Nat) (ws : List Str) (b : Kn) : lexGo (k.sep.cps.toList ++ rest) ws b = lexGo rest (ws ++ [k.sg]) .blank := by
  have e : k.sep.cps.toList = [32] ++ k.sg.cps.toList ++ [32] := by cases k <;> decide +kernel
  obtain ⟨c, h1, h2, h3⟩ : ∃ c, k.sg.cps.toList = [c] ∧ kindM c = some .other ∧ sg1 c = k.sg := by
    cases k
    · exact ⟨43, by decide +kernel⟩
    · exact ⟨38, by decide +kernel⟩
    · exact ⟨124, by decide +kernel⟩
  rw [e, h1]
  show lexGo (32 :: c :: 32 :: rest) ws b = _
  rw [lex_blank (by decide +kernel), lex_other h2, lex_blank (by decide +kernel), h3]
theorem lex_open (rest : List Nat) (ws : List Str) (b : Kn) : lexGo (("(" : Str).cps.toList ++ rest) ws b = lexGo rest (ws ++ ([("(" : Str)] : List Str)) .other := by
  rw [show ("(" : Str).cps.toList = [40] by decide +kernel]
  show lexGo (40 :: rest) ws b = _
  rw [lex_other (by decide +kernel), show sg1 40 = "(" by decide +kernel]
theorem lex_close (rest : List Nat) (ws : List Str) (b : Kn) : lexGo ((")" : Str).cps.toList ++ rest) ws b = lexGo rest (ws ++ ([(")" : Str)] : List Str)) .other := by
  rw [show (")" : Str).cps.toList = [41] by decide +kernel]
  show lexGo (41 :: rest) ws b = _
  rw [lex_other (by decide +kernel), show sg1 41 = ")" by decide +kernel]
theorem lex_gopen (rest : List Nat) (ws : List Str) (b : Kn) : lexGo (("[" : Str).cps.toList ++ rest) ws b = lexGo rest (ws ++ ([("[" : Str)] : List Str)) .other := by
  rw [show ("[" : Str).cps.toList = [91] by decide +kernel]
  show lexGo (91 :: rest) ws b = _
  rw [lex_other (by decide +kernel), show sg1 91 = "[" by decide +kernel]
theorem lex_gclose (rest : List Nat) (ws : List Str) (b : Kn) : lexGo (("] " : Str).cps.toList ++ rest) ws b = lexGo rest (ws ++ ([("]" : Str)] : List Str)) .blank := by
  rw [show ("] " : Str).cps.toList = [93, 32] by decide +kernel]
  show lexGo (93 :: 32 :: rest) ws b = _
  rw [lex_other (by decide +kernel), lex_blank (by decide +kernel), show sg1 93 = "]" by decide +kernel]
theorem lex_sp (rest : List Nat) (ws : List Str) (b : Kn) : lexGo ((" " : Str).cps.toList ++ rest) ws b = lexGo rest ws .blank := by
  rw [show (" " : Str).cps.toList = [32] by decide +kernel]
  show lexGo (32 :: rest) ws b = _
  rw [lex_blank (by decide +kernel)]
/-- the text z, from a place between words on, is the words W -/
def Lx (z : Str) (W : List Str) : Prop := ∀ (rest : List Nat) (ws : List Str) (b : Kn), Sep b → ∃ b', lexGo (z.cps.toList ++ rest) ws b = lexGo rest (ws ++ W) b'
theorem lx_wrs {k : Kd} {f : Nat} : ∀ {ts : List T}, ts ≠ [] → (∀ t ∈ ts, Lx (wr (f : Int) t) (ww f t)) → Lx (wrs k.sep (f : Int) ts) (wws f k.sg ts)
  | [], h, _ => absurd rfl h
  | [t], _, h => by
    rw [wrs_one]
    show Lx _ (ww f t ++ [])
    rw [List.append_nil]
    exact h t (List.mem_singleton.mpr rfl)
  | t :: u :: r, _, h => by
    rw [wrs_two]
    intro rest ws b hb
    obtain ⟨b1, e1⟩ := h t List.mem_cons_self (k.sep.cps.toList ++ ((wrs k.sep (f : Int) (u :: r)).cps.toList ++ rest)) ws b hb
    obtain ⟨b2, e2⟩ := lx_wrs (ts := u :: r) (k := k) (f := f) (by intro z; cases z) (fun t ht => h t (List.mem_cons_of_mem _ ht)) rest (ws ++ ww f t ++ [k.sg]) .blank (.inr rfl)
    refine ⟨b2, ?_⟩
    rw [cps_app, cps_app, List.append_assoc, List.append_assoc, e1, lex_sep, e2]
    congr 1
    show _ = ws ++ (ww f t ++ (k.sg :: (ww f u ++ wwr f k.sg r)))
    simp [wws]
theorem lx_wr : ∀ (d : Nat) {t : T} (f : Nat), TOk NameOk d t → Lx (wr (f : Int) t) (ww f t)
  | d, .num n, f, h => fun rest ws b hb => ⟨.figure, by
      unfold wr ww
      exact lex_num h.num rest ws hb⟩
  | d, .name s, f, h => fun rest ws b hb => ⟨.letter, by
      unfold wr ww
      exact lex_name h.name rest ws hb⟩
  | 0, .gate _ _ _, _, h => h.elim
  | 0, .join _ _, _, h => h.elim
  | d + 1, .gate s n t, f, h => fun rest ws b hb => by
    obtain ⟨h1, h2, h3, h4⟩ := h
    obtain ⟨b', e⟩ := lx_wr d 4 h4 rest (ws ++ ([("[" : Str)] : List Str) ++ [s] ++ [tx n] ++ ([("]" : Str)] : List Str)) .blank (.inr rfl)
    refine ⟨b', ?_⟩
    unfold wr ww
    rw [cps_app, cps_app, cps_app, cps_app, cps_app]
    simp only [List.append_assoc]
    rw [lex_gopen, lex_name h1 _ _ (.inl rfl), lex_sp, lex_num ⟨by omega, h3⟩ _ _ (.inr rfl), lex_gclose]
    rw [show ((4 : Nat) : Int) = 4 from rfl] at e
    rw [e]
    congr 1
    simp
  | d + 1, .join k ts, f, h => fun rest ws b hb => by
    obtain ⟨h1, h2, h3⟩ := h
    have hne : ts ≠ [] := by intro z; subst z; simp at h1
    have L : Lx (wrs k.sep (k.rank + 1) ts) (wws (k.rk + 1) k.sg ts) := by
      have q := lx_wrs (k := k) (f := k.rk + 1) hne fun t ht => lx_wr d (k.rk + 1) (h3 t ht)
      rw [show (((k.rk + 1 : Nat)) : Int) = k.rank + 1 by rw [Kd.rk_rank]; omega] at q
      exact q
    unfold wr ww
    by_cases c : k.rk < f
    · rw [if_pos c, if_pos (by rw [Kd.rk_rank]; omega)]
      obtain ⟨b', e⟩ := L ((")" : Str).cps.toList ++ rest) (ws ++ ([("(" : Str)] : List Str)) .other (.inl rfl)
      refine ⟨.other, ?_⟩
      rw [cps_app, cps_app]
      simp only [List.append_assoc]
      rw [lex_open, e, lex_close]
      congr 1
      simp
    · rw [if_neg c, if_neg (by rw [Kd.rk_rank]; omega)]
      exact L rest ws b hb
theorem lexM_wr {d : Nat} {t : T} (h : TOk NameOk d t) : lexM (wr 0 t) = some (ww 0 t) := by
  obtain ⟨b, e⟩ := lx_wr d 0 h [] [] .blank (.inr rfl)
  unfold lexM
  rw [List.append_nil] at e
  rw [show ((0 : Nat) : Int) = 0 from rfl] at e
  rw [e, List.nil_append]
  unfold lexGo
  rfl
end Aw

namespace Aw
open PySem L2
/-! ### the parser over the words of a written tree -/
def At (ws : List Str) : Nat → List Str → Prop
  | _, [] => True
  | i, a :: r => wd ws i = a ∧ At ws (i + 1) r
theorem At.left {ws : List Str} : ∀ {A B : List Str} {i : Nat}, At ws i (A ++ B) → At ws i A
  | [], _, _, _ => True.intro
  | _ :: A, B, _, h => ⟨h.1, At.left (A := A) (B := B) h.2⟩
theorem At.right {ws : List Str} : ∀ {A B : List Str} {i : Nat}, At ws i (A ++ B) → At ws (i + A.length) B
  | [], _, _, h => h
  | a :: A, B, i, h => by
    have q := At.right (A := A) (B := B) h.2
    rwa [show i + 1 + A.length = i + (a :: A).length by rw [List.length_cons]; omega] at q
theorem At.self (pre : List Str) : ∀ (W : List Str), At (pre ++ W) pre.length W
  | [] => True.intro
  | a :: r => by
    refine ⟨?_, ?_⟩
    · unfold wd
      rw [List.getD_eq_getElem?_getD, List.getElem?_append_right (Nat.le_refl _), Nat.sub_self]
      rfl
    · have q := At.self (pre ++ [a]) r
      rw [List.append_assoc, List.length_append, List.length_singleton] at q
      exact q
def ks : Nat → List Kd
  | 0 => kinds
  | 1 => kinds
  | 2 => [.least, .sum]
  | 3 => [.sum]
  | _ => []
theorem ks_split {f : Nat} {k : Kd} (h : f ≤ k.rk) : ∃ pre, ks f = pre ++ k :: ks (k.rk + 1) ∧ ∀ k' ∈ pre, f ≤ k'.rk := by
  match f, k, h with
  | 0, .most, _ => exact ⟨[], rfl, fun _ h => by cases h⟩
  | 0, .least, _ => exact ⟨[.most], rfl, fun _ h => Nat.zero_le _⟩
  | 0, .sum, _ => exact ⟨[.most, .least], rfl, fun _ h => Nat.zero_le _⟩
  | 1, .most, _ => exact ⟨[], rfl, fun _ h => by cases h⟩
  | 1, .least, _ => exact ⟨[.most], rfl, fun k _ => by cases k <;> decide⟩
  | 1, .sum, _ => exact ⟨[.most, .least], rfl, fun k _ => by cases k <;> decide⟩
  | 2, .most, h => exact absurd h (by decide)
  | 2, .least, _ => exact ⟨[], rfl, fun _ h => by cases h⟩
  | 2, .sum, _ => exact ⟨[.least], rfl, fun k h => by rw [List.mem_singleton.mp h]; decide⟩
  | 3, .most, h => exact absurd h (by decide)
  | 3, .least, h => exact absurd h (by decide)
  | 3, .sum, _ => exact ⟨[], rfl, fun _ h => by cases h⟩
  | n + 4, k, h => cases k <;> exact absurd h (by simp [Kd.rk])
theorem ks_ge {f : Nat} : ∀ {k : Kd}, k ∈ ks f → f ≤ k.rk := by
  intro k h
  match f, h with
  | 0, _ => exact Nat.zero_le _
  | 1, _ => cases k <;> decide
  | 2, h => revert h; cases k <;> decide
  | 3, h => revert h; cases k <;> decide
  | n + 4, h => exact absurd h (by simp [ks])
theorem sg_inj {a b : Kd} (h : a.sg = b.sg) : a = b := by
  revert h
  cases a <;> cases b <;> decide +kernel
theorem chain_stop {ws : List Str} {F : Nat → Option (T × Nat)} {sg : Str} {n : Nat} {ts : List T} {j : Nat} (h : ¬ wd ws j = sg) : chainM ws F sg (n + 1) ts j = some (ts, j) := by
  unfold chainM
  rw [if_neg h]
theorem lift_pre {ws : List Str} {P : Nat → Option (T × Nat)} {ks' : List Kd} {i j : Nat} {t : T} (h : levelM ws P ks' i = some (t, j)) : ∀ {pre : List Kd}, (∀ k ∈ pre, ¬ wd ws j = k.sg) → levelM ws P (pre ++ ks') i = some (t, j)
  | [], _ => h
  | k :: r, hp => by
    have ih := lift_pre h (pre := r) fun k hk => hp k (List.mem_cons_of_mem _ hk)
    rw [List.cons_append]
    unfold levelM
    rw [ih]
    dsimp only
    rw [chain_stop (hp k List.mem_cons_self)]
    rfl
/-- a piece that is no sum, least or most, or stands in brackets -/
theorem lift_piece {ws : List Str} {P : Nat → Option (T × Nat)} {f i j : Nat} {t : T} (h : P i = some (t, j)) (hn : ∀ k : Kd, f ≤ k.rk → ¬ wd ws j = k.sg) : levelM ws P (ks f) i = some (t, j) := by
  have q : levelM ws P [] i = some (t, j) := by unfold levelM; exact h
  have r := lift_pre q (pre := ks f) fun k hk => hn k (ks_ge hk)
  rwa [List.append_nil] at r
/-- the rest of a chain -/
theorem chain_all {ws : List Str} {F : Nat → Option (T × Nat)} {k : Kd} {f : Nat} : ∀ (r : List T) (acc : List T) (j n : Nat), r.length < n → At ws j (wwr f k.sg r) → ¬ wd ws (j + (wwr f k.sg r).length) = k.sg →
    (∀ t ∈ r, ∀ i, At ws i (ww f t) → (wd ws (i + (ww f t).length) = k.sg ∨ i + (ww f t).length = j + (wwr f k.sg r).length) → F i = some (t, i + (ww f t).length)) →
    chainM ws F k.sg n acc j = some (acc ++ r, j + (wwr f k.sg r).length)
  | [], acc, j, n, hn, _, he, _ => by
    cases n with
    | zero => exact absurd hn (Nat.lt_irrefl 0)
    | succ n =>
      rw [List.append_nil]
      exact chain_stop he
  | t :: r, acc, j, n, hn, ha, he, hF => by
    cases n with
    | zero => exact absurd hn (Nat.not_lt_zero _)
    | succ n =>
      have ha' : wd ws j = k.sg ∧ At ws (j + 1) (ww f t ++ wwr f k.sg r) := by unfold wwr at ha; exact ha
      have el : (wwr f k.sg (t :: r)).length = 1 + (ww f t).length + (wwr f k.sg r).length := by
        conv => lhs; unfold wwr
        rw [List.length_cons, List.length_append]; omega
      rw [el] at he hF ⊢
      have e1 : F (j + 1) = some (t, j + 1 + (ww f t).length) := by
        refine hF t List.mem_cons_self (j + 1) ha'.2.left ?_
        cases r with
        | nil => right; show _ = j + (1 + (ww f t).length + 0); omega
        | cons u r =>
          left
          have q := ha'.2.right
          unfold wwr at q
          exact q.1
      unfold chainM
      rw [if_pos ha'.1, e1]
      dsimp only
      have ih := chain_all r (acc ++ [t]) (j + 1 + (ww f t).length) n (by rw [List.length_cons] at hn; omega) ha'.2.right (by
        rwa [show j + 1 + (ww f t).length + (wwr f k.sg r).length = j + (1 + (ww f t).length + (wwr f k.sg r).length) by omega]) (fun u hu i h1 h2 => hF u (List.mem_cons_of_mem _ hu) i h1 (by
        rwa [show j + 1 + (ww f t).length + (wwr f k.sg r).length = j + (1 + (ww f t).length + (wwr f k.sg r).length) by omega] at h2))
      rw [ih, List.append_assoc]
      congr 2
      omega
theorem name_not {s : Str} (h : NameOk s) : ¬ s = "(" ∧ ¬ s = "[" := by
  constructor
  · intro e
    subst e
    exact absurd h (by unfold NameOk; decide +kernel)
  · intro e
    subst e
    exact absurd h (by unfold NameOk; decide +kernel)
/-- a join whose pieces are read, read at its own level -/
theorem join_level {ws : List Str} {P : Nat → Option (T × Nat)} {k : Kd} {ts : List T} {i : Nat} (h2 : 2 ≤ ts.length) (h8 : ts.length ≤ 8) (hl : ts.length ≤ ws.length) (ha : At ws i (wws (k.rk + 1) k.sg ts))
    (hn : ∀ k' : Kd, k.rk ≤ k'.rk → ¬ wd ws (i + (wws (k.rk + 1) k.sg ts).length) = k'.sg)
    (hF : ∀ t ∈ ts, ∀ i, At ws i (ww (k.rk + 1) t) → (∀ k' : Kd, k.rk + 1 ≤ k'.rk → ¬ wd ws (i + (ww (k.rk + 1) t).length) = k'.sg) → levelM ws P (ks (k.rk + 1)) i = some (t, i + (ww (k.rk + 1) t).length)) :
    levelM ws P (k :: ks (k.rk + 1)) i = some (.join k ts, i + (wws (k.rk + 1) k.sg ts).length) := by
  cases ts with
  | nil => exact absurd h2 (by simp)
  | cons t r =>
    have el : (wws (k.rk + 1) k.sg (t :: r)).length = (ww (k.rk + 1) t).length + (wwr (k.rk + 1) k.sg r).length := by
      conv => lhs; unfold wws
      rw [List.length_append]
    have ha' : At ws i (ww (k.rk + 1) t ++ wwr (k.rk + 1) k.sg r) := by unfold wws at ha; exact ha
    rw [el] at hn ⊢
    have other : ∀ {j : Nat}, wd ws j = k.sg → ∀ k' : Kd, k.rk + 1 ≤ k'.rk → ¬ wd ws j = k'.sg := fun e k' hk q => by
      have z := sg_inj (e.symm.trans q)
      subst z
      omega
    have e1 : levelM ws P (ks (k.rk + 1)) i = some (t, i + (ww (k.rk + 1) t).length) := by
      refine hF t List.mem_cons_self i ha'.left ?_
      cases r with
      | nil => exact absurd h2 (by simp)
      | cons u r =>
        have q := ha'.right
        unfold wwr at q
        exact other q.1
    unfold levelM
    rw [e1]
    dsimp only
    have c := chain_all (F := levelM ws P (ks (k.rk + 1))) (k := k) (f := k.rk + 1) r [t] (i + (ww (k.rk + 1) t).length) (ws.length + 1) (by rw [List.length_cons] at hl; omega) ha'.right (by
      rw [Nat.add_assoc]; exact hn k (Nat.le_refl _)) (fun u hu i' h1 h2' => hF u (List.mem_cons_of_mem _ hu) i' h1 (by
        rcases h2' with e | e
        · exact other e
        · rw [e, Nat.add_assoc]
          exact fun k' hk => hn k' (by omega)))
    rw [c]
    dsimp only
    have ej : joinM k ([t] ++ r) = some (.join k (t :: r)) := by
      unfold joinM
      rw [if_neg (by show ¬ 8 < (t :: r).length; omega)]
      cases r with
      | nil => exact absurd h2 (by simp)
      | cons u r => rfl
    rw [ej, Nat.add_assoc]
    rfl
theorem parse_wr {ws : List Str} : ∀ (d D : Nat) {t : T} (f i : Nat), d < D → TOk NameOk d t → ws.length ≥ 3 ∨ d = 0 → At ws i (ww f t) → (∀ k : Kd, f ≤ k.rk → ¬ wd ws (i + (ww f t).length) = k.sg) → levelM ws (pieceM ws D) (ks f) i = some (t, i + (ww f t).length)
  | d, 0, _, _, _, h, _, _, _, _ => absurd h (Nat.not_lt_zero _)
  | d, D + 1, .num n, f, i, hd, h, hw, ha, hn => by
    obtain ⟨h1, h2, h3, h4, h5, h6⟩ := num_facts h.num
    unfold ww at ha hn ⊢
    refine lift_piece ?_ hn
    unfold pieceM
    rw [ha.1, if_neg h5, if_neg h6, h4, if_neg Bool.false_ne_true, h3]
    rfl
  | d, D + 1, .name s, f, i, hd, h, hw, ha, hn => by
    have h1 := h.name
    obtain ⟨h5, h6⟩ := name_not h1
    unfold ww at ha hn ⊢
    refine lift_piece ?_ hn
    unfold pieceM
    rw [ha.1, if_neg h5, if_neg h6, if_pos (show nameM s = true from h1)]
    rfl
  | 0, D + 1, .gate _ _ _, _, _, _, h, _, _, _ => h.elim
  | 0, D + 1, .join _ _, _, _, _, h, _, _, _ => h.elim
  | d + 1, D + 1, .gate s n t, f, i, hd, h, hw, ha, hn => by
    obtain ⟨h1, h2, h3, h4⟩ := h
    unfold ww at ha hn ⊢
    obtain ⟨a1, a2, a3, a4, a5⟩ := ha
    have ih := parse_wr d D (t := t) 4 (i + 1 + 1 + 1 + 1) (by omega) h4 (hw.elim .inl fun z => absurd z (Nat.succ_ne_zero d)) a5 (fun k hk => by cases k <;> exact absurd hk (by decide))
    refine lift_piece ?_ hn
    unfold pieceM
    rw [a1, if_neg (by decide +kernel), if_pos rfl]
    unfold gateM
    rw [a2, if_pos (show nameM s = true from h1), show wd ws (i + 1 + 1) = tx n from a3, bound_facts ⟨h2, h3⟩]
    dsimp only
    rw [if_pos (show wd ws (i + 1 + 2) = "]" from a4)]
    have e : pieceM ws D (i + 1 + 3) = some (t, i + 1 + 1 + 1 + 1 + (ww 4 t).length) := by
      unfold levelM ks at ih
      exact ih
    rw [e]
    refine congrArg (fun j => some (T.gate s n t, j)) ?_
    simp only [List.length_cons]
    omega
  | d + 1, D + 1, .join k ts, f, i, hd, h, hw, ha, hn => by
    obtain ⟨h2, h3, h4⟩ := h
    have hl : ts.length ≤ ws.length := by
      rcases hw with z | z
      · omega
      · cases z
    unfold ww at ha hn ⊢
    by_cases c : k.rk < f
    · rw [if_pos c] at ha hn ⊢
      obtain ⟨a1, a2⟩ := ha
      have aB := a2.left
      have aC := a2.right.1
      refine lift_piece ?_ hn
      unfold pieceM
      rw [a1, if_pos rfl]
      have J := join_level (P := pieceM ws D) (k := k) h2 (by omega) hl aB (fun k' _ e => by
        rw [aC] at e
        cases k' <;> exact absurd e (by decide +kernel)) (fun t ht i' h1 h2' => parse_wr d D (k.rk + 1) i' (by omega) (h4 t ht) (hw.elim .inl fun z => absurd z (Nat.succ_ne_zero d)) h1 h2')
      obtain ⟨pre, ep, hp⟩ := ks_split (f := 0) (k := k) (Nat.zero_le _)
      have Lv := lift_pre J (pre := pre) (fun k' _ e => by
        rw [aC] at e
        cases k' <;> exact absurd e (by decide +kernel))
      rw [← ep] at Lv
      rw [show levelM ws (pieceM ws D) kinds (i + 1) = some (.join k ts, i + 1 + (wws (k.rk + 1) k.sg ts).length) from Lv]
      dsimp only
      rw [if_pos aC]
      congr 2
      rw [List.length_cons, List.length_append, List.length_singleton]
      omega
    · rw [if_neg c] at ha hn ⊢
      have J := join_level (P := pieceM ws (D + 1)) (k := k) h2 (by omega) hl ha (fun k' hk => hn k' (by omega)) (fun t ht i' h1 h2' => parse_wr d (D + 1) (k.rk + 1) i' (by omega) (h4 t ht) (hw.elim .inl fun z => absurd z (Nat.succ_ne_zero d)) h1 h2')
      obtain ⟨pre, ep, hp⟩ := ks_split (f := f) (k := k) (by omega)
      rw [ep]
      exact lift_pre J fun k' hk => hn k' (hp k' hk)
def WB : Nat → Nat
  | 0 => 1
  | d + 1 => 3 * WB d + 4
theorem WB_one : ∀ d, 1 ≤ WB d
  | 0 => Nat.le_refl 1
  | d + 1 => by show 1 ≤ 3 * WB d + 4; omega
theorem wwr_len {f B : Nat} {sg : Str} : ∀ {r : List T}, (∀ t ∈ r, (ww f t).length ≤ B) → (wwr f sg r).length ≤ r.length * (B + 1)
  | [], _ => Nat.zero_le _
  | t :: r, h => by
    unfold wwr
    have ih := wwr_len (sg := sg) (r := r) fun u hu => h u (List.mem_cons_of_mem _ hu)
    have h1 := h t List.mem_cons_self
    rw [List.length_cons, List.length_append, List.length_cons, Nat.add_mul]
    omega
theorem wws_len {f B : Nat} {sg : Str} {t : T} {r : List T} (h : ∀ u ∈ t :: r, (ww f u).length ≤ B) : (wws f sg (t :: r)).length ≤ B + r.length * (B + 1) := by
  unfold wws
  have h1 := h t List.mem_cons_self
  have h2 := wwr_len (sg := sg) (r := r) fun u hu => h u (List.mem_cons_of_mem _ hu)
  rw [List.length_append]
  omega
theorem ww_len : ∀ (d : Nat) {t : T} (f : Nat), TOk NameOk d t → (ww f t).length ≤ WB d
  | d, .num n, f, h => by unfold ww; exact WB_one d
  | d, .name n, f, h => by unfold ww; exact WB_one d
  | 0, .gate _ _ _, _, h => h.elim
  | 0, .join _ _, _, h => h.elim
  | d + 1, .gate s n t, f, h => by
    have e := ww_len d 4 h.2.2.2
    unfold ww
    show _ ≤ 3 * WB d + 4
    simp only [List.length_cons]
    omega
  | d + 1, .join k ts, f, h => by
    obtain ⟨h1, h2, h3⟩ := h
    have e : (wws (k.rk + 1) k.sg ts).length ≤ 3 * WB d + 2 := by
      cases ts with
      | nil => simp at h1
      | cons t r =>
        have q := wws_len (sg := k.sg) (t := t) (r := r) fun u hu => ww_len d (k.rk + 1) (h3 u hu)
        have q2 : r.length * (WB d + 1) ≤ 2 * (WB d + 1) := Nat.mul_le_mul_right _ (by rw [List.length_cons] at h2; omega)
        omega
    unfold ww
    show _ ≤ 3 * WB d + 4
    split
    · rw [List.length_cons, List.length_append, List.length_singleton]; omega
    · omega
theorem ww_pos : ∀ {t : T} (d f : Nat), TOk NameOk d t → 1 ≤ (ww f t).length
  | .num _, d, f, _ => by unfold ww; exact Nat.le_refl 1
  | .name _, d, f, _ => by unfold ww; exact Nat.le_refl 1
  | .gate _ _ _, d, f, _ => by unfold ww; rw [List.length_cons]; omega
  | .join k ts, 0, f, h => h.elim
  | .join k ts, d + 1, f, h => by
    have e : 1 ≤ (wws (k.rk + 1) k.sg ts).length := by
      obtain ⟨h1, h2, h3⟩ := h
      match ts, h1 with
      | t :: u :: r, _ =>
        unfold wws wwr
        rw [List.length_append, List.length_cons]
        omega
    unfold ww
    split
    · rw [List.length_cons]; omega
    · exact e
theorem ww_three {t : T} (d f : Nat) (h : TOk NameOk (d + 1) t) : TOk NameOk 0 t ∨ 3 ≤ (ww f t).length := by
  cases t with
  | num n => exact .inl h
  | name n => exact .inl h
  | gate s n t =>
    right
    unfold ww
    simp only [List.length_cons]
    omega
  | join k ts =>
    right
    obtain ⟨h1, h2, h3⟩ := h
    have e : 3 ≤ (wws (k.rk + 1) k.sg ts).length := by
      match ts, h1, h3 with
      | t :: u :: r, _, h3 =>
        have q1 := ww_pos d (k.rk + 1) (h3 t List.mem_cons_self)
        have q2 := ww_pos d (k.rk + 1) (h3 u (List.mem_cons_of_mem _ List.mem_cons_self))
        unfold wws wwr
        rw [List.length_append, List.length_cons, List.length_append]
        omega
    unfold ww
    split
    · rw [List.length_cons, List.length_append]; omega
    · exact e
theorem sg_ne (k : Kd) : ¬ Str.empty = k.sg := by cases k <;> decide +kernel
theorem read_wr {t : T} (h : TOk NameOk 2 t) : readM (wr 0 t) = some t := by
  have l1 := wr_len (fun s h => (name_facts h).2.1) 2 0 h
  have l2 : (ww 0 t).length ≤ 25 := ww_len 2 0 h
  unfold readM
  rw [if_neg (by have : LB 2 = 134 := rfl; omega), lexM_wr h]
  dsimp only
  rw [if_neg (by omega)]
  have ha : At (ww 0 t) 0 (ww 0 t) := At.self [] (ww 0 t)
  have he : wd (ww 0 t) (0 + (ww 0 t).length) = Str.empty := wd_end (by omega)
  have P : levelM (ww 0 t) (pieceM (ww 0 t) 3) (ks 0) 0 = some (t, 0 + (ww 0 t).length) := by
    rcases ww_three 1 0 h with q | q
    · exact parse_wr 0 3 0 0 (by decide) q (.inr rfl) ha fun k _ e => sg_ne k (he.symm.trans e)
    · exact parse_wr 2 3 0 0 (by decide) h (.inl q) ha fun k _ e => sg_ne k (he.symm.trans e)
  rw [show levelM (ww 0 t) (pieceM (ww 0 t) 3) kinds 0 = _ from P]
  dsimp only
  rw [if_pos he]
end Aw

namespace Aw
open PySem L2
/-! ### any tree that a text is read to: its depth, a bound for its text -/
mutual
def WF : T → Prop
  | .num n => 0 ≤ n ∧ n ≤ 30
  | .name _ => True
  | .gate _ b t => (0 ≤ b ∧ b ≤ 30) ∧ WF t
  | .join _ ts => 0 < ts.length ∧ WFs ts
def WFs : List T → Prop
  | [] => True
  | t :: r => WF t ∧ WFs r
end
mutual
def dep : T → Nat
  | .num _ => 0
  | .name _ => 0
  | .gate _ _ t => dep t + 1
  | .join _ ts => deps ts + 1
def deps : List T → Nat
  | [] => 0
  | t :: r => max (dep t) (deps r)
end
mutual
def Sz : T → Nat
  | .num _ => 2
  | .name s => s.length
  | .gate s _ t => s.length + 8 + Sz t
  | .join _ ts => 2 + Szs ts
def Szs : List T → Nat
  | [] => 0
  | t :: r => Sz t + 3 + Szs r
end
theorem WFs.mem : ∀ {ts : List T} {t : T}, WFs ts → t ∈ ts → WF t
  | _ :: _, _, h, .head _ => h.1
  | _ :: _, _, h, .tail _ m => WFs.mem h.2 m
theorem WFs.of : ∀ {ts : List T}, (∀ t ∈ ts, WF t) → WFs ts
  | [], _ => True.intro
  | t :: r, h => ⟨h t List.mem_cons_self, WFs.of fun u hu => h u (List.mem_cons_of_mem _ hu)⟩
theorem dep_mem : ∀ {ts : List T} {t : T}, t ∈ ts → dep t ≤ deps ts
  | _ :: _, _, .head _ => Nat.le_max_left _ _
  | _ :: _, _, .tail _ m => Nat.le_trans (dep_mem m) (Nat.le_max_right _ _)
theorem deps_le {n : Nat} : ∀ {ts : List T}, (∀ t ∈ ts, dep t ≤ n) → deps ts ≤ n
  | [], _ => Nat.zero_le _
  | t :: r, h => Nat.max_le.mpr ⟨h t List.mem_cons_self, deps_le fun u hu => h u (List.mem_cons_of_mem _ hu)⟩
theorem Sz_mem : ∀ {ts : List T} {t : T}, t ∈ ts → Sz t ≤ Szs ts
  | t :: r, _, .head _ => by show Sz t ≤ Sz t + 3 + Szs r; omega
  | t :: r, u, .tail _ m => by have := Sz_mem m; show Sz u ≤ Sz t + 3 + Szs r; omega
theorem Szs_take : ∀ (ts : List T) (i : Nat), Szs (ts.take i) ≤ Szs ts
  | [], i => by simp
  | t :: r, 0 => Nat.zero_le _
  | t :: r, i + 1 => by have := Szs_take r i; show Sz t + 3 + Szs (r.take i) ≤ Sz t + 3 + Szs r; omega
mutual
theorem wr_Sz : ∀ (t : T) (f : Int), WF t → (wr f t).length ≤ Sz t
  | .num n, f, h => tx_len h
  | .name s, f, h => Nat.le_refl _
  | .gate s b t, f, h => by
    have e := wr_Sz t 4 h.2
    have e2 := tx_len h.1
    unfold wr Sz
    rw [len_app', len_app', len_app', len_app', len_app']
    have c1 : ("[" : Str).length = 1 := by decide +kernel
    have c2 : (" " : Str).length = 1 := by decide +kernel
    have c3 : ("] " : Str).length = 2 := by decide +kernel
    omega
  | .join k ts, f, h => by
    have e := wrs_Sz ts k.sep (k.rank + 1) (sep_len k) h.2
    have c1 : ("(" : Str).length = 1 := by decide +kernel
    have c2 : (")" : Str).length = 1 := by decide +kernel
    unfold wr Sz
    split
    · rw [len_app', len_app']; omega
    · omega
theorem wrs_Sz : ∀ (ts : List T) (sep : Str) (f : Int), sep.length = 3 → WFs ts → (wrs sep f ts).length ≤ Szs ts
  | [], _, _, _, _ => Nat.le_refl _
  | [t], sep, f, _, h => by
    have e := wr_Sz t f h.1
    rw [wrs_one]
    show _ ≤ Sz t + 3 + 0
    omega
  | t :: u :: r, sep, f, hs, h => by
    have e := wr_Sz t f h.1
    have e2 := wrs_Sz (u :: r) sep f hs h.2
    rw [wrs_two, len_app', len_app', hs]
    show _ ≤ Sz t + 3 + Szs (u :: r)
    omega
end
theorem wrs_join (sep : Str) (f : Int) : ∀ ts : List T, wrs sep f ts = Str.join sep (ts.map (wr f))
  | [] => rfl
  | [t] => by rw [wrs_one]; rfl
  | t :: u :: r => by
    rw [wrs_two, wrs_join sep f (u :: r)]
    rfl
theorem sum_Sz (f : Int) : ∀ (ts : List T), WFs ts → ((ts.map (wr f)).map (·.length)).sum + ts.length * 3 ≤ Szs ts
  | [], _ => Nat.le_refl _
  | t :: r, h => by
    have e := sum_Sz f r h.2
    have e1 := wr_Sz t f h.1
    simp only [List.map_cons, List.sum_cons, List.length_cons]
    show _ ≤ Sz t + 3 + Szs r
    omega
/-- the kind in which a piece stands: a gate, or a sum, a least, a most -/
def kfs : Option Kd → Str
  | none => "gate"
  | some k => k.nm
def kff : Option Kd → Int
  | none => 4
  | some k => k.rank + 1
def kinds_of : T → Str
  | .num _ => "number"
  | .name _ => "name"
  | .gate _ _ _ => "gate"
  | .join k _ => k.nm
def bare : Option Kd → List Str
  | none => ["number", "name", "gate"]
  | some .sum => ["number", "name", "gate"]
  | some .least => ["number", "name", "gate", "sum"]
  | some .most => ["number", "name", "gate", "sum", "least"]
/-- what needs no brackets there -/
theorem bare_iff (o : Option Kd) (t : T) : wr (kff o) t = if kinds_of t ∈ bare o then wr 0 t else "(" ++ wr 0 t ++ ")" := by
  have lit : ∀ s ∈ ([("number" : Str), "name", "gate"] : List Str), s ∈ bare o := by
    intro s hs
    cases o with
    | none => exact hs
    | some k => cases k <;> (simp only [bare, List.mem_cons] at hs ⊢; rcases hs with h | h | h | h <;> simp [h] at *)
  cases t with
  | num n => rw [if_pos (lit _ (by simp [kinds_of]))]; unfold wr; rfl
  | name n => rw [if_pos (lit _ (by simp [kinds_of]))]; unfold wr; rfl
  | gate s b t => rw [if_pos (lit _ (by simp [kinds_of]))]; conv => lhs; unfold wr
                  conv => rhs; unfold wr
  | join k ts =>
    have e : (k.nm ∈ bare o) ↔ ¬ k.rank < kff o := by
      revert k
      cases o with
      | none => intro k; cases k <;> decide +kernel
      | some k' => intro k; cases k <;> cases k' <;> decide +kernel
    have ek : kinds_of (.join k ts) = k.nm := rfl
    rw [ek]
    have e0 : wr 0 (.join k ts) = wrs k.sep (k.rank + 1) ts := by
      unfold wr
      rw [if_neg (by cases k <;> decide)]
    rw [e0]
    conv => lhs; unfold wr
    by_cases c : k.rank < kff o
    · rw [if_pos c, if_neg (fun z => e.mp z c)]
    · rw [if_neg c, if_pos (e.mpr c)]
theorem ok_WF : ∀ (d : Nat) {t : T}, TOk NameOk d t → WF t ∧ dep t ≤ d ∧ Sz t ≤ 30 * 4 ^ d
  | d, .num n, h => ⟨h.num, Nat.zero_le _, by
      have := Nat.pow_le_pow_right (n := 4) (by decide) (Nat.zero_le d)
      show 2 ≤ 30 * 4 ^ d
      omega⟩
  | d, .name s, h => ⟨True.intro, Nat.zero_le _, by
      have := Nat.pow_le_pow_right (n := 4) (by decide) (Nat.zero_le d)
      have := (name_facts h.name).2.1
      show s.length ≤ 30 * 4 ^ d
      omega⟩
  | 0, .gate _ _ _, h => h.elim
  | 0, .join _ _, h => h.elim
  | d + 1, .gate s b t, h => by
    obtain ⟨h1, h2, h3, h4⟩ := h
    obtain ⟨a, b', c⟩ := ok_WF d h4
    have l := (name_facts h1).2.1
    have p := Nat.pow_le_pow_right (n := 4) (by decide) (Nat.zero_le d)
    refine ⟨⟨⟨by omega, h3⟩, a⟩, Nat.succ_le_succ b', ?_⟩
    show s.length + 8 + Sz t ≤ 30 * 4 ^ (d + 1)
    rw [Nat.pow_succ]
    omega
  | d + 1, .join k ts, h => by
    obtain ⟨h1, h2, h3⟩ := h
    have p := Nat.pow_le_pow_right (n := 4) (by decide) (Nat.zero_le d)
    refine ⟨⟨by omega, WFs.of fun t ht => (ok_WF d (h3 t ht)).1⟩, Nat.succ_le_succ (deps_le fun t ht => (ok_WF d (h3 t ht)).2.1), ?_⟩
    have g : ∀ (l : List T), (∀ t ∈ l, TOk NameOk d t) → Szs l ≤ l.length * (30 * 4 ^ d + 3) := by
      intro l
      induction l with
      | nil => intro _; exact Nat.zero_le _
      | cons t r ih =>
        intro hl
        have e1 := (ok_WF d (hl t List.mem_cons_self)).2.2
        have e2 := ih fun u hu => hl u (List.mem_cons_of_mem _ hu)
        show Sz t + 3 + Szs r ≤ _
        rw [List.length_cons, Nat.add_mul, Nat.one_mul]
        omega
    have e := g ts h3
    have e2 : ts.length * (30 * 4 ^ d + 3) ≤ 3 * (30 * 4 ^ d + 3) := Nat.mul_le_mul_right _ h2
    show 2 + Szs ts ≤ 30 * 4 ^ (d + 1)
    rw [Nat.pow_succ]
    omega
end Aw

namespace Aw
open PySem L2
/-! ### what a tree is that is read: how deep it lies (D), how firm it binds (f) -/
inductive Fit : Nat → Nat → T → Prop
  | num {D f : Nat} {n : Int} : 0 ≤ n → n ≤ 30 → Fit (D + 1) f (.num n)
  | name {D f : Nat} {s : Str} : NameOk s → Fit (D + 1) f (.name s)
  | gate {D f : Nat} {s : Str} {b : Int} {t : T} : NameOk s → 1 ≤ b → b ≤ 30 → Fit D 4 t → Fit (D + 1) f (.gate s b t)
  | free {D f : Nat} {k : Kd} {ts : List T} : f ≤ k.rk → 2 ≤ ts.length → ts.length ≤ 8 → (∀ t ∈ ts, Fit D (k.rk + 1) t) → Fit D f (.join k ts)
  | brk {D f : Nat} {k : Kd} {ts : List T} : k.rk < f → 2 ≤ ts.length → ts.length ≤ 8 → (∀ t ∈ ts, Fit D (k.rk + 1) t) → Fit (D + 1) f (.join k ts)
theorem Fit.more {D f : Nat} {t : T} (h : Fit D f t) : Fit (D + 1) f t := by
  induction h with
  | num a b => exact .num a b
  | name a => exact .name a
  | gate a b c _ ih => exact .gate a b c ih
  | free a b c _ ih => exact .free a b c ih
  | brk a b c _ ih => exact .brk a b c ih
theorem Fit.less {D f f' : Nat} {t : T} (h : Fit D f t) (hf : f' ≤ f) : Fit D f' t := by
  cases h with
  | num a b => exact .num a b
  | name a => exact .name a
  | gate a b c d => exact .gate a b c d
  | free a b c d => exact .free (Nat.le_trans hf a) b c d
  | @brk D f k ts a b c d =>
    by_cases e : k.rk < f'
    · exact .brk e b c d
    · exact .free (by omega) b c fun t ht => (d t ht).more
theorem rk_pos (k : Kd) : 1 ≤ k.rk := by cases k <;> decide
theorem rk_le (k : Kd) : k.rk ≤ 3 := by cases k <;> decide
theorem ww_joinL {f : Nat} {k : Kd} {ts : List T} : (ww f (.join k ts)).length = (wws (k.rk + 1) k.sg ts).length + if k.rk < f then 2 else 0 := by
  conv => lhs; unfold ww
  split
  · rw [List.length_cons, List.length_append, List.length_singleton]
  · rfl
theorem ww_less {f f' : Nat} (hf : f' ≤ f) : ∀ t : T, (ww f' t).length ≤ (ww f t).length
  | .num n => by unfold ww; exact Nat.le_refl _
  | .name n => by unfold ww; exact Nat.le_refl _
  | .gate s b t => by unfold ww; exact Nat.le_refl _
  | .join k ts => by
    rw [ww_joinL, ww_joinL]
    split
    · rw [if_pos (by omega)]; omega
    · omega
theorem Fit.up {D : Nat} {t : T} (h : Fit D 1 t) : Fit (D + 1) 4 t ∧ (ww 4 t).length ≤ (ww 1 t).length + 2 := by
  cases h with
  | num a b => exact ⟨.num a b, by unfold ww; omega⟩
  | name a => exact ⟨.name a, by unfold ww; omega⟩
  | gate a b c d => exact ⟨.gate a b c d.more, by unfold ww; omega⟩
  | @free D f k ts a b c d =>
    refine ⟨.brk (Nat.lt_succ_of_le (rk_le k)) b c d, ?_⟩
    rw [ww_joinL, ww_joinL]
    split <;> split <;> omega
  | @brk D f k ts a b c d => exact absurd a (by have := rk_pos k; omega)
theorem wwr_snoc (f : Nat) (sg : Str) (t : T) : ∀ r : List T, (wwr f sg (r ++ [t])).length = (wwr f sg r).length + 1 + (ww f t).length
  | [] => by
    show (wwr f sg [t]).length = _
    unfold wwr wwr
    simp
    omega
  | u :: r => by
    have ih := wwr_snoc f sg t r
    rw [List.cons_append]
    unfold wwr
    rw [List.length_cons, List.length_append, ih, List.length_cons, List.length_append]
    omega
theorem wws_snoc {f : Nat} {sg : Str} {t : T} : ∀ {ts : List T}, ts ≠ [] → (wws f sg (ts ++ [t])).length = (wws f sg ts).length + 1 + (ww f t).length
  | [], h => absurd rfl h
  | u :: r, _ => by
    rw [List.cons_append]
    unfold wws
    rw [List.length_append, wwr_snoc, List.length_append]
    omega
theorem numM_some {lo : Int} {w : Str} {n : Int} (h : numM lo w = some n) : lo ≤ n ∧ n ≤ 30 ∧ w = tx n := by
  unfold numM at h
  cases e : (List.range (31 - lo).toNat).find? fun i => decide (w = tx (lo + (i : Nat))) with
  | none => rw [e] at h; cases h
  | some i =>
    rw [e] at h
    have h' : lo + (i : Nat) = n := Option.some.inj h
    have m := List.mem_range.mp (List.mem_of_find?_eq_some e)
    have q := List.find?_some e
    subst h'
    exact ⟨by omega, by omega, of_decide_eq_true q⟩
theorem numM_empty : numM 0 Str.empty = none := by decide +kernel
theorem nameM_empty : nameM Str.empty = false := by decide +kernel
theorem numM_eq {n : Int} (h : 0 ≤ n ∧ n ≤ 30) : numM 0 (tx n) = some n := (num_facts h).2.2.1
theorem numM_one {w : Str} {n : Int} (h : numM 1 w = some n) : numM 0 w = some n := by
  obtain ⟨a, b, c⟩ := numM_some h
  rw [c]
  exact numM_eq ⟨by omega, b⟩
theorem numM_of {w : Str} {n : Int} (h : numM 0 w = some n) (h1 : 1 ≤ n) : numM 1 w = some n := by
  obtain ⟨a, b, c⟩ := numM_some h
  rw [c]
  exact bound_facts ⟨h1, b⟩
/-- a word that a reading takes -/
def GoodW (w : Str) : Prop := nameM w = true ∨ (∃ n, numM 0 w = some n) ∨ w = "(" ∨ w = ")" ∨ w = "[" ∨ w = "]" ∨ ∃ k : Kd, w = k.sg
/-- a reading from i to j -/
structure Rd1 (ws : List Str) (D f i : Nat) (t : T) (j : Nat) : Prop where
  fit : Fit D f t
  lt : i < j
  le : j ≤ ws.length
  wl : (ww f t).length ≤ j - i
  gd : ∀ m, i ≤ m → m < j → GoodW (wd ws m)
theorem wd_ne {ws : List Str} {i : Nat} (h : wd ws i ≠ Str.empty) : i < ws.length := by
  rcases Nat.lt_or_ge i ws.length with q | q
  · exact q
  · exact absurd (wd_end (by omega)) h
theorem chain_fit {ws : List Str} {F : Nat → Option (T × Nat)} {sg : Str} {D f : Nat} (hF : ∀ i t j, F i = some (t, j) → Rd1 ws D f i t j) (hs : ∃ k : Kd, sg = k.sg) (i : Nat) : ∀ (n : Nat) {ts ts' : List T} {j j' : Nat}, chainM ws F sg n ts j = some (ts', j') → ts ≠ [] → (∀ t ∈ ts, Fit D f t) → (wws f sg ts).length ≤ j - i → i < j → j ≤ ws.length → (∀ m, i ≤ m → m < j → GoodW (wd ws m)) →
    ts' ≠ [] ∧ (∀ t ∈ ts', Fit D f t) ∧ (wws f sg ts').length ≤ j' - i ∧ i < j' ∧ j' ≤ ws.length ∧ ∀ m, i ≤ m → m < j' → GoodW (wd ws m)
  | 0, _, _, _, _, h, _, _, _, _, _, _ => by simp [chainM] at h
  | n + 1, ts, ts', j, j', h, h0, ht, hw, hi, hj, hg => by
    unfold chainM at h
    by_cases c : wd ws j = sg
    · rw [if_pos c] at h
      cases e : F (j + 1) with
      | none => rw [e] at h; cases h
      | some r =>
        obtain ⟨t, m⟩ := r
        rw [e] at h
        obtain ⟨r1, r2, r3, r4, r5⟩ := hF _ _ _ e
        refine chain_fit hF hs i n h (by simp) (fun u hu => ?_) ?_ (by omega) r3 (fun x h1 h2 => ?_)
        · rcases List.mem_append.mp hu with q | q
          · exact ht u q
          · rw [List.mem_singleton.mp q]; exact r1
        · rw [wws_snoc h0]; omega
        · rcases Nat.lt_trichotomy x j with q | q | q
          · exact hg x h1 q
          · obtain ⟨k, ek⟩ := hs
            exact .inr (.inr (.inr (.inr (.inr (.inr ⟨k, by rw [q, c, ek]⟩)))))
          · exact r5 x q h2
    · rw [if_neg c] at h
      cases h
      exact ⟨h0, ht, hw, hi, hj, hg⟩
theorem step_fit {ws : List Str} {P : Nat → Option (T × Nat)} {rest : List Kd} {k : Kd} {D : Nat} (hF : ∀ i t j, levelM ws P rest i = some (t, j) → Rd1 ws D (k.rk + 1) i t j) : ∀ i t j, levelM ws P (k :: rest) i = some (t, j) → Rd1 ws D k.rk i t j := by
  intro i t j h
  unfold levelM at h
  cases e : levelM ws P rest i with
  | none => rw [e] at h; cases h
  | some r =>
    obtain ⟨t1, j1⟩ := r
    rw [e] at h
    dsimp only at h
    obtain ⟨r1, r2, r3, r4, r5⟩ := hF _ _ _ e
    cases e2 : chainM ws (levelM ws P rest) k.sg (ws.length + 1) [t1] j1 with
    | none => rw [e2] at h; cases h
    | some r2' =>
      obtain ⟨ts, j2⟩ := r2'
      rw [e2] at h
      dsimp only at h
      obtain ⟨c0, c1, c2, c3, c4, c5⟩ := chain_fit hF ⟨k, rfl⟩ i _ e2 (by simp) (fun u hu => by rw [List.mem_singleton.mp hu]; exact r1) (by unfold wws wwr; rw [List.append_nil]; exact r4) r2 r3 r5
      unfold joinM at h
      by_cases c8 : 8 < ts.length
      · rw [if_pos c8] at h; cases h
      · rw [if_neg c8] at h
        match ts, c0, c1, c2, h, c8 with
        | [], c0, _, _, _, _ => exact absurd rfl c0
        | [u], _, c1, c2, h, _ =>
          have h' := Option.some.inj h
          cases h'
          refine ⟨(c1 t List.mem_cons_self).less (Nat.le_succ _), c3, c4, ?_, c5⟩
          unfold wws wwr at c2
          rw [List.append_nil] at c2
          exact Nat.le_trans (ww_less (Nat.le_succ _) t) c2
        | u :: v :: r, _, c1, c2, h, c8 =>
          have h' := Option.some.inj h
          cases h'
          refine ⟨.free (Nat.le_refl _) (by simp) (by omega) c1, c3, c4, ?_, c5⟩
          rw [ww_joinL, if_neg (Nat.lt_irrefl _)]
          exact c2
theorem level_fit {ws : List Str} {P : Nat → Option (T × Nat)} {D : Nat} (hP : ∀ i t j, P i = some (t, j) → Rd1 ws D 4 i t j) : ∀ i t j, levelM ws P kinds i = some (t, j) → Rd1 ws D 1 i t j :=
  step_fit (k := .most) (step_fit (k := .least) (step_fit (k := .sum) fun i t j h => by
    unfold levelM at h
    exact hP i t j h))
theorem piece_fit {ws : List Str} : ∀ (D : Nat) (i : Nat) (t : T) (j : Nat), pieceM ws D i = some (t, j) → Rd1 ws D 4 i t j
  | 0, i, t, j, h => by simp [pieceM] at h
  | D + 1, i, t, j, h => by
    have ih := piece_fit (ws := ws) D
    unfold pieceM at h
    by_cases c1 : wd ws i = "("
    · rw [if_pos c1] at h
      cases e : levelM ws (pieceM ws D) kinds (i + 1) with
      | none => rw [e] at h; cases h
      | some r =>
        obtain ⟨t1, j1⟩ := r
        rw [e] at h
        dsimp only at h
        obtain ⟨r1, r2, r3, r4, r5⟩ := level_fit ih _ _ _ e
        by_cases c2 : wd ws j1 = ")"
        · rw [if_pos c2] at h
          cases h
          obtain ⟨u1, u2⟩ := r1.up
          have := wd_lt c2 (by decide +kernel)
          refine ⟨u1, by omega, by omega, by omega, fun m h1 h2 => ?_⟩
          rcases Nat.lt_or_ge i m with q | q
          · rcases Nat.lt_or_ge m j1 with q2 | q2
            · exact r5 m q q2
            · rw [show m = j1 by omega, c2]; exact .inr (.inr (.inr (.inl rfl)))
          · rw [show m = i by omega, c1]; exact .inr (.inr (.inl rfl))
        · rw [if_neg c2] at h; cases h
    · rw [if_neg c1] at h
      by_cases c2 : wd ws i = "["
      · rw [if_pos c2] at h
        unfold gateM at h
        by_cases c3 : nameM (wd ws (i + 1)) = true
        · rw [if_pos c3] at h
          cases e : numM 1 (wd ws (i + 1 + 1)) with
          | none => rw [e] at h; cases h
          | some b =>
            rw [e] at h
            dsimp only at h
            obtain ⟨b1, b2, _⟩ := numM_some e
            by_cases c4 : wd ws (i + 1 + 2) = "]"
            · rw [if_pos c4] at h
              cases e2 : pieceM ws D (i + 1 + 3) with
              | none => rw [e2] at h; cases h
              | some r =>
                obtain ⟨t1, j1⟩ := r
                rw [e2] at h
                have h' := Option.some.inj h
                cases h'
                obtain ⟨r1, r2, r3, r4, r5⟩ := ih _ _ _ e2
                refine ⟨.gate c3 b1 b2 r1, by omega, r3, ?_, fun m h1 h2 => ?_⟩
                · unfold ww
                  simp only [List.length_cons]
                  omega
                · rcases (by omega : m = i ∨ m = i + 1 ∨ m = i + 1 + 1 ∨ m = i + 1 + 2 ∨ i + 1 + 3 ≤ m) with q | q | q | q | q
                  · rw [q, c2]; exact .inr (.inr (.inr (.inr (.inl rfl))))
                  · rw [q]; exact .inl c3
                  · rw [q]; exact .inr (.inl ⟨b, numM_one e⟩)
                  · rw [q, c4]; exact .inr (.inr (.inr (.inr (.inr (.inl rfl)))))
                  · exact r5 m q h2
            · rw [if_neg c4] at h; cases h
        · rw [if_neg c3] at h; cases h
      · rw [if_neg c2] at h
        by_cases c3 : nameM (wd ws i) = true
        · rw [if_pos c3] at h
          cases h
          have := wd_ne (ws := ws) (i := i) (fun e => by rw [e, nameM_empty] at c3; cases c3)
          exact ⟨.name c3, by omega, by omega, by unfold ww; simp, fun m h1 h2 => by rw [show m = i by omega]; exact .inl c3⟩
        · rw [if_neg c3] at h
          cases e : numM 0 (wd ws i) with
          | none => rw [e] at h; cases h
          | some n =>
            rw [e] at h
            have h' := Option.some.inj h
            cases h'
            obtain ⟨b1, b2, _⟩ := numM_some e
            have := wd_ne (ws := ws) (i := i) (fun q => by rw [q, numM_empty] at e; cases e)
            exact ⟨.num b1 b2, by omega, by omega, by unfold ww; simp, fun m h1 h2 => by rw [show m = i by omega]; exact .inr (.inl ⟨n, e⟩)⟩
theorem read_facts {z : Str} {t : T} (h : readM z = some t) : ∃ ws, lexM z = some ws ∧ ws.length ≤ 40 ∧ z.length ≤ 400 ∧ Fit 3 1 t ∧ (ww 1 t).length ≤ ws.length := by
  unfold readM at h
  by_cases c : 400 < z.length
  · rw [if_pos c] at h; cases h
  · rw [if_neg c] at h
    cases e : lexM z with
    | none => rw [e] at h; cases h
    | some ws =>
      rw [e] at h
      dsimp only at h
      by_cases c2 : 40 < ws.length
      · rw [if_pos c2] at h; cases h
      · rw [if_neg c2] at h
        cases e2 : levelM ws (pieceM ws 3) kinds 0 with
        | none => rw [e2] at h; cases h
        | some r =>
          obtain ⟨t1, j1⟩ := r
          rw [e2] at h
          dsimp only at h
          obtain ⟨r1, r2, r3, r4, _⟩ := level_fit (piece_fit 3) _ _ _ e2
          by_cases c3 : wd ws j1 = Str.empty
          · rw [if_pos c3] at h
            cases h
            exact ⟨ws, rfl, by omega, by omega, r1, by omega⟩
          · rw [if_neg c3] at h; cases h
/-! ### what is known of such a tree -/
theorem Fit.wf {D f : Nat} {t : T} (h : Fit D f t) : WF t := by
  induction h with
  | num a b => exact ⟨a, b⟩
  | name a => exact True.intro
  | gate a b c _ ih => exact ⟨⟨by omega, c⟩, ih⟩
  | free a b c _ ih => exact ⟨by omega, WFs.of ih⟩
  | brk a b c _ ih => exact ⟨by omega, WFs.of ih⟩
theorem Fit.dep {D f : Nat} {t : T} (h : Fit D f t) (hf : f ≤ 4) : dep t + f ≤ 4 * D + 4 := by
  induction h with
  | num a b => show 0 + _ ≤ _; omega
  | name a => show 0 + _ ≤ _; omega
  | @gate D f s b t a _ c _ ih =>
    have := ih (Nat.le_refl 4)
    show Aw.dep t + 1 + f ≤ _
    omega
  | @free D f k ts a b c _ ih =>
    have r := rk_le k
    have := deps_le (n := 4 * D + 4 - (k.rk + 1)) (ts := ts) fun t ht => by have := ih t ht (by omega); omega
    show deps ts + 1 + f ≤ _
    omega
  | @brk D f k ts a b c _ ih =>
    have r := rk_le k
    have := deps_le (n := 4 * D + 4 - (k.rk + 1)) (ts := ts) fun t ht => by have := ih t ht (by omega); omega
    show deps ts + 1 + f ≤ _
    omega
theorem Fit.pos {D f : Nat} {t : T} (h : Fit D f t) : 1 ≤ (ww f t).length := by
  induction h with
  | num a b => unfold ww; exact Nat.le_refl 1
  | name a => unfold ww; exact Nat.le_refl 1
  | gate a b c _ ih => unfold ww; simp
  | @free D f k ts a b c _ ih =>
    rw [ww_joinL]
    match ts, b with
    | u :: v :: r, _ =>
      unfold wws wwr
      rw [List.length_append, List.length_cons]
      omega
  | @brk D f k ts a b c _ ih =>
    rw [ww_joinL, if_pos a]
    omega
theorem wwr_sum {f : Nat} {sg : Str} {g : T → Nat} {c m : Nat} : ∀ {r : List T}, (∀ t ∈ r, g t ≤ c * (ww f t).length) → m ≤ c → (r.map fun t => g t + m).sum ≤ c * (wwr f sg r).length
  | [], _, _ => Nat.zero_le _
  | t :: r, h, hm => by
    have h1 := h t List.mem_cons_self
    have ih := wwr_sum (sg := sg) (f := f) (r := r) (fun u hu => h u (List.mem_cons_of_mem _ hu)) hm
    unfold wwr
    rw [List.map_cons, List.sum_cons, List.length_cons, List.length_append, Nat.mul_add, Nat.mul_add]
    omega
theorem Szs_sum : ∀ ts : List T, Szs ts = (ts.map fun t => Sz t + 3).sum
  | [] => rfl
  | t :: r => by show Sz t + 3 + Szs r = _; rw [Szs_sum r, List.map_cons, List.sum_cons]
theorem Szs_ww {f : Nat} {sg : Str} {ts : List T} (h2 : 2 ≤ ts.length) (h : ∀ t ∈ ts, Sz t ≤ 8 * (ww f t).length) : 2 + Szs ts ≤ 8 * (wws f sg ts).length := by
  match ts, h2 with
  | t :: u :: r, _ =>
    have h1 := h t List.mem_cons_self
    have q := wwr_sum (sg := sg) (f := f) (c := 8) (m := 3) (r := r) (g := Sz) (fun x hx => h x (List.mem_cons_of_mem _ (List.mem_cons_of_mem _ hx))) (by omega)
    have h3 := h u (List.mem_cons_of_mem _ List.mem_cons_self)
    rw [Szs_sum, List.map_cons, List.sum_cons, List.map_cons, List.sum_cons]
    unfold wws wwr
    rw [List.length_append, List.length_cons, List.length_append]
    omega
theorem Fit.sz {D f : Nat} {t : T} (h : Fit D f t) : Sz t ≤ 8 * (ww f t).length := by
  induction h with
  | num a b => unfold ww; show 2 ≤ 8 * 1; decide
  | @name D f s a => have := (name_facts a).2.1; unfold ww; show s.length ≤ 8 * 1; omega
  | @gate D f s b t a _ c _ ih =>
    have := (name_facts a).2.1
    unfold ww
    show s.length + 8 + Sz t ≤ _
    simp only [List.length_cons]
    omega
  | @free D f k ts a b c _ ih =>
    rw [ww_joinL]
    have := Szs_ww (sg := k.sg) b ih
    show 2 + Szs ts ≤ _
    omega
  | @brk D f k ts a b c _ ih =>
    rw [ww_joinL]
    have := Szs_ww (sg := k.sg) b ih
    show 2 + Szs ts ≤ _
    omega
theorem Fit.ok {D f : Nat} {t : T} (h : Fit D f t) (hf : f ≤ 4) (hd : D ≤ 3) (hw : (ww f t).length ≤ 40) : WF t ∧ Aw.dep t ≤ 16 ∧ Sz t ≤ 1000 := by
  have h1 := h.dep hf
  have h2 := h.sz
  exact ⟨h.wf, by omega, by omega⟩
end Aw

namespace Aw
open PySem L2
/-! ### what is read is read again from its own text -/
theorem lx_wrsF {k : Kd} {f : Nat} {ts : List T} (h : ts ≠ []) (hx : ∀ t ∈ ts, Lx (wr (f : Int) t) (ww f t)) : Lx (wrs k.sep (f : Int) ts) (wws f k.sg ts) := lx_wrs h hx
theorem Fit.lx {D f : Nat} {t : T} (h : Fit D f t) : ∀ f' : Nat, Lx (wr (f' : Int) t) (ww f' t) := by
  have joinL : ∀ {k : Kd} {ts : List T}, 2 ≤ ts.length → (∀ t ∈ ts, ∀ f' : Nat, Lx (wr (f' : Int) t) (ww f' t)) → ∀ f' : Nat, Lx (wr (f' : Int) (.join k ts)) (ww f' (.join k ts)) := fun {k ts} h1 ih f' => by
    have hne : ts ≠ [] := by intro z; subst z; simp at h1
    have L : Lx (wrs k.sep (k.rank + 1) ts) (wws (k.rk + 1) k.sg ts) := by
      have q := lx_wrs (k := k) (f := k.rk + 1) hne fun t ht => ih t ht (k.rk + 1)
      rw [show (((k.rk + 1 : Nat)) : Int) = k.rank + 1 by rw [Kd.rk_rank]; omega] at q
      exact q
    intro rest ws b hb
    unfold wr ww
    by_cases c : k.rk < f'
    · rw [if_pos c, if_pos (by rw [Kd.rk_rank]; omega)]
      obtain ⟨b', e⟩ := L ((")" : Str).cps.toList ++ rest) (ws ++ ([("(" : Str)] : List Str)) .other (.inl rfl)
      refine ⟨.other, ?_⟩
      rw [cps_app, cps_app]
      simp only [List.append_assoc]
      rw [lex_open, e, lex_close]
      congr 1
      simp
    · rw [if_neg c, if_neg (by rw [Kd.rk_rank]; omega)]
      exact L rest ws b hb
  induction h with
  | num a b => exact fun f' rest ws b' hb => ⟨.figure, by unfold wr ww; exact lex_num ⟨a, b⟩ rest ws hb⟩
  | name a => exact fun f' rest ws b' hb => ⟨.letter, by unfold wr ww; exact lex_name a rest ws hb⟩
  | @gate D f s n t h1 h2 h3 _ ih =>
    intro f' rest ws b hb
    obtain ⟨b', e⟩ := ih 4 rest (ws ++ ([("[" : Str)] : List Str) ++ [s] ++ [tx n] ++ ([("]" : Str)] : List Str)) .blank (.inr rfl)
    refine ⟨b', ?_⟩
    unfold wr ww
    rw [cps_app, cps_app, cps_app, cps_app, cps_app]
    simp only [List.append_assoc]
    rw [lex_gopen, lex_name h1 _ _ (.inl rfl), lex_sp, lex_num ⟨by omega, h3⟩ _ _ (.inr rfl), lex_gclose]
    rw [show ((4 : Nat) : Int) = 4 from rfl] at e
    rw [e]
    congr 1
    simp
  | free a b c _ ih => exact joinL b ih
  | brk a b c _ ih => exact joinL b ih
theorem wws_mem {f : Nat} {sg : Str} {w : Str} : ∀ {r : List T}, w ∈ wwr f sg r → w = sg ∨ ∃ t ∈ r, w ∈ ww f t
  | t :: r, h => by
    unfold wwr at h
    rcases List.mem_cons.mp h with e | h
    · exact .inl e
    · rcases List.mem_append.mp h with h | h
      · exact .inr ⟨t, List.mem_cons_self, h⟩
      · rcases wws_mem h with e | ⟨u, hu, hw⟩
        · exact .inl e
        · exact .inr ⟨u, List.mem_cons_of_mem _ hu, hw⟩
theorem wws_mem' {f : Nat} {sg : Str} {w : Str} {ts : List T} (h : w ∈ wws f sg ts) : w = sg ∨ ∃ t ∈ ts, w ∈ ww f t := by
  cases ts with
  | nil => cases h
  | cons t r =>
    unfold wws at h
    rcases List.mem_append.mp h with h | h
    · exact .inr ⟨t, List.mem_cons_self, h⟩
    · rcases wws_mem h with e | ⟨u, hu, hw⟩
      · exact .inl e
      · exact .inr ⟨u, List.mem_cons_of_mem _ hu, hw⟩
theorem ne_len {w : Str} (h : 1 ≤ w.length) : ¬ w = Str.empty := fun e => by
  rw [e] at h
  exact absurd h (by decide +kernel)
theorem Fit.ne {D f : Nat} {t : T} (h : Fit D f t) : ∀ f' : Nat, ∀ w ∈ ww f' t, ¬ w = Str.empty := by
  have joinL : ∀ {k : Kd} {ts : List T}, (∀ t ∈ ts, ∀ f' : Nat, ∀ w ∈ ww f' t, ¬ w = Str.empty) → ∀ f' : Nat, ∀ w ∈ ww f' (.join k ts), ¬ w = Str.empty := fun {k ts} ih f' w hw => by
    have base : ∀ w ∈ wws (k.rk + 1) k.sg ts, ¬ w = Str.empty := fun w hw => by
      rcases wws_mem' hw with e | ⟨u, hu, hw⟩
      · rw [e]; exact fun z => sg_ne k z.symm
      · exact ih u hu _ w hw
    unfold ww at hw
    split at hw
    · rcases List.mem_cons.mp hw with e | hw
      · rw [e]; decide +kernel
      · rcases List.mem_append.mp hw with hw | hw
        · exact base w hw
        · rw [List.mem_singleton.mp hw]; decide +kernel
    · exact base w hw
  induction h with
  | num a b =>
    intro f' w hw
    unfold ww at hw
    rw [List.mem_singleton.mp hw]
    exact ne_len (num_facts ⟨a, b⟩).1
  | name a =>
    intro f' w hw
    unfold ww at hw
    rw [List.mem_singleton.mp hw]
    exact ne_len (name_facts a).1
  | gate a b c _ ih =>
    intro f' w hw
    unfold ww at hw
    rcases List.mem_cons.mp hw with e | hw
    · rw [e]; decide +kernel
    · rcases List.mem_cons.mp hw with e | hw
      · rw [e]; exact ne_len (name_facts a).1
      · rcases List.mem_cons.mp hw with e | hw
        · rw [e]; exact ne_len (num_facts ⟨by omega, c⟩).1
        · rcases List.mem_cons.mp hw with e | hw
          · rw [e]; decide +kernel
          · exact ih 4 w hw
  | free a b c _ ih => exact joinL ih
  | brk a b c _ ih => exact joinL ih
theorem At.len {ws : List Str} : ∀ {W : List Str} {i : Nat}, At ws i W → (∀ w ∈ W, ¬ w = Str.empty) → W ≠ [] → i + W.length ≤ ws.length
  | [], _, _, _, h => absurd rfl h
  | [a], i, h, hn, _ => by
    have := wd_ne (ws := ws) (i := i) (by rw [h.1]; exact hn a List.mem_cons_self)
    show i + 1 ≤ _
    omega
  | a :: b :: r, i, h, hn, _ => by
    have := At.len (W := b :: r) h.2 (fun w hw => hn w (List.mem_cons_of_mem _ hw)) (by simp)
    rw [List.length_cons]
    omega
theorem wwr_many {f : Nat} {sg : Str} : ∀ {r : List T}, r.length ≤ (wwr f sg r).length
  | [] => Nat.le_refl _
  | t :: r => by
    unfold wwr
    have := wwr_many (f := f) (sg := sg) (r := r)
    rw [List.length_cons, List.length_cons, List.length_append]
    omega
theorem wws_many {f : Nat} {sg : Str} {ts : List T} (h : ∀ t ∈ ts, 1 ≤ (ww f t).length) : ts.length ≤ (wws f sg ts).length := by
  cases ts with
  | nil => exact Nat.le_refl _
  | cons t r =>
    unfold wws
    have h1 := h t List.mem_cons_self
    have h2 := wwr_many (f := f) (sg := sg) (r := r)
    rw [List.length_cons, List.length_append]
    omega
theorem parse_fit {ws : List Str} {D f : Nat} {t : T} (h : Fit D f t) : ∀ i, At ws i (ww f t) → (∀ k : Kd, f ≤ k.rk → ¬ wd ws (i + (ww f t).length) = k.sg) → levelM ws (pieceM ws D) (ks f) i = some (t, i + (ww f t).length) := by
  induction h with
  | @num D f n a b =>
    intro i ha hn
    obtain ⟨h1, h2, h3, h4, h5, h6⟩ := num_facts ⟨a, b⟩
    unfold ww at ha hn ⊢
    refine lift_piece ?_ hn
    unfold pieceM
    rw [ha.1, if_neg h5, if_neg h6, h4, if_neg Bool.false_ne_true, h3]
    rfl
  | @name D f s a =>
    intro i ha hn
    obtain ⟨h5, h6⟩ := name_not a
    unfold ww at ha hn ⊢
    refine lift_piece ?_ hn
    unfold pieceM
    rw [ha.1, if_neg h5, if_neg h6, if_pos (show nameM s = true from a)]
    rfl
  | @gate D f s n t h1 h2 h3 _ ih =>
    intro i ha hn
    unfold ww at ha hn ⊢
    obtain ⟨a1, a2, a3, a4, a5⟩ := ha
    have ih := ih (i + 1 + 1 + 1 + 1) a5 (fun k hk => by cases k <;> exact absurd hk (by decide))
    refine lift_piece ?_ hn
    unfold pieceM
    rw [a1, if_neg (by decide +kernel), if_pos rfl]
    unfold gateM
    rw [a2, if_pos (show nameM s = true from h1), show wd ws (i + 1 + 1) = tx n from a3, bound_facts ⟨h2, h3⟩]
    dsimp only
    rw [if_pos (show wd ws (i + 1 + 2) = "]" from a4)]
    have e : pieceM ws D (i + 1 + 3) = some (t, i + 1 + 1 + 1 + 1 + (ww 4 t).length) := by
      unfold levelM ks at ih
      exact ih
    rw [e]
    refine congrArg (fun j => some (T.gate s n t, j)) ?_
    simp only [List.length_cons]
    omega
  | @free D f k ts hf h2 h8 hts ih =>
    intro i ha hn
    have c : ¬ k.rk < f := by omega
    have ne := (Fit.free (f := f) hf h2 h8 hts).ne
    have pos : ∀ t ∈ ts, 1 ≤ (ww (k.rk + 1) t).length := fun t ht => (hts t ht).pos
    unfold ww at ha hn ⊢
    rw [if_neg c] at ha hn ⊢
    have hm := wws_many (sg := k.sg) pos
    have hl : ts.length ≤ ws.length := by
      have ne' := ne f
      unfold ww at ne'
      rw [if_neg c] at ne'
      have := At.len ha ne' (by intro z; rw [z] at hm; have : ts.length ≤ 0 := hm; omega)
      omega
    have J := join_level (P := pieceM ws D) (k := k) h2 h8 hl ha (fun k' hk => hn k' (by omega)) (fun t ht i' h1 h2' => ih t ht i' h1 h2')
    obtain ⟨pre, ep, hp⟩ := ks_split (f := f) (k := k) (by omega)
    rw [ep]
    exact lift_pre J fun k' hk => hn k' (hp k' hk)
  | @brk D f k ts hf h2 h8 hts ih =>
    intro i ha hn
    have ne := (Fit.brk (f := f) hf h2 h8 hts).ne
    have pos : ∀ t ∈ ts, 1 ≤ (ww (k.rk + 1) t).length := fun t ht => (hts t ht).pos
    unfold ww at ha hn ⊢
    rw [if_pos hf] at ha hn ⊢
    have hm := wws_many (sg := k.sg) pos
    have hl : ts.length ≤ ws.length := by
      have ne' := ne f
      unfold ww at ne'
      rw [if_pos hf] at ne'
      have := At.len ha ne' (by simp)
      rw [List.length_cons, List.length_append] at this
      omega
    obtain ⟨a1, a2⟩ := ha
    have aB := a2.left
    have aC := a2.right.1
    refine lift_piece ?_ hn
    unfold pieceM
    rw [a1, if_pos rfl]
    have J := join_level (P := pieceM ws D) (k := k) h2 h8 hl aB (fun k' _ e => by
      rw [aC] at e
      cases k' <;> exact absurd e (by decide +kernel)) (fun t ht i' h1 h2' => ih t ht i' h1 h2')
    obtain ⟨pre, ep, hp⟩ := ks_split (f := 0) (k := k) (Nat.zero_le _)
    have Lv := lift_pre J (pre := pre) (fun k' _ e => by
      rw [aC] at e
      cases k' <;> exact absurd e (by decide +kernel))
    rw [← ep] at Lv
    rw [show levelM ws (pieceM ws D) kinds (i + 1) = some (.join k ts, i + 1 + (wws (k.rk + 1) k.sg ts).length) from Lv]
    dsimp only
    rw [if_pos aC]
    congr 2
    rw [List.length_cons, List.length_append, List.length_singleton]
    omega
theorem read_fit {t : T} (h : Fit 3 1 t) (hw : (ww 1 t).length ≤ 40) : readM (wr 0 t) = some t := by
  have h0 : Fit 3 0 t := h.less (by decide)
  have w0 : (ww 0 t).length ≤ 40 := Nat.le_trans (ww_less (by decide) t) hw
  have l1 := wr_Sz t 0 h.wf
  have l2 := h.sz
  have lx : lexM (wr 0 t) = some (ww 0 t) := by
    obtain ⟨b, e⟩ := h.lx 0 [] [] .blank (.inr rfl)
    unfold lexM
    rw [List.append_nil, show ((0 : Nat) : Int) = 0 from rfl] at e
    rw [e, List.nil_append]
    unfold lexGo
    rfl
  unfold readM
  rw [if_neg (by omega), lx]
  dsimp only
  rw [if_neg (by omega)]
  have ha : At (ww 0 t) 0 (ww 0 t) := At.self [] (ww 0 t)
  have he : wd (ww 0 t) (0 + (ww 0 t).length) = Str.empty := wd_end (by omega)
  have P : levelM (ww 0 t) (pieceM (ww 0 t) 3) (ks 0) 0 = some (t, 0 + (ww 0 t).length) := parse_fit h0 0 ha fun k _ e => sg_ne k (he.symm.trans e)
  rw [show levelM (ww 0 t) (pieceM (ww 0 t) 3) kinds 0 = _ from P]
  dsimp only
  rw [if_pos he]
end Aw

namespace Aw
open PySem L2
/-! ### where one sign stands in a text; a text parted at its first blank -/
def occStep (x sub : Str) (hi limit : Nat) (b : Array Nat × Nat) (i : Nat) : Array Nat × Nat :=
  if (decide (b.1.size < limit) && decide (b.2 ≤ i) && decide (i + sub.length ≤ hi) && Builtin.Str.subAt x sub i) = true then (b.1.push i, i + sub.length) else (b.1, b.2)
theorem occ_fold (x sub : Str) (hi limit : Nat) : Builtin.Str.occurrences x sub 0 hi limit = ((List.range (hi + 1)).foldl (occStep x sub hi limit) (#[], 0)).1.toList := by
  unfold Builtin.Str.occurrences
  have e : ∀ (l : List Nat) (b : Array Nat × Nat), (forIn (m := Id) l b fun i s =>
      if (decide (s.fst.size < limit) && decide (s.snd ≤ i) && decide (i + sub.length ≤ hi) && Builtin.Str.subAt x sub i) = true then pure (ForInStep.yield (s.fst.push i, i + sub.length)) else pure (ForInStep.yield (s.fst, s.snd))) = (l.foldl (occStep x sub hi limit) b : Array Nat × Nat) := by
    intro l
    induction l with
    | nil => intro b; rfl
    | cons a r ih =>
      intro b
      rw [List.forIn_cons, List.foldl_cons, ← ih]
      unfold occStep
      by_cases c : (decide (b.fst.size < limit) && decide (b.snd ≤ a) && decide (a + sub.length ≤ hi) && Builtin.Str.subAt x sub a) = true
      · rw [if_pos c, if_pos c]; rfl
      · rw [if_neg c, if_neg c]; rfl
  have e2 := e (List.range (hi + 1)) (#[], 0)
  show ((forIn (m := Id) [0:hi + 1] ((#[] : Array Nat), 0) fun i s =>
      if (decide (s.fst.size < limit) && decide (s.snd ≤ i) && decide (i + sub.length ≤ hi) && Builtin.Str.subAt x sub i) = true then pure (ForInStep.yield (s.fst.push i, i + sub.length)) else pure (ForInStep.yield (s.fst, s.snd))) : Array Nat × Nat).1.toList = _
  rw [Std.Legacy.Range.forIn_eq_forIn_range']
  have e3 : List.range' 0 (Std.Legacy.Range.size [0:hi + 1]) 1 = List.range (hi + 1) := by
    rw [List.range_eq_range']
    congr 1
    simp [Std.Legacy.Range.size]
  show ((forIn (m := Id) (List.range' 0 (Std.Legacy.Range.size [0:hi + 1]) 1) ((#[] : Array Nat), 0) fun i s =>
      if (decide (s.fst.size < limit) && decide (s.snd ≤ i) && decide (i + sub.length ≤ hi) && Builtin.Str.subAt x sub i) = true then pure (ForInStep.yield (s.fst.push i, i + sub.length)) else pure (ForInStep.yield (s.fst, s.snd))) : Array Nat × Nat).1.toList = _
  rw [e3, e2]
/-- a sub of one sign -/
theorem occ_go {x sub : Str} (h1 : sub.length = 1) {n limit : Nat} : ∀ (k lo : Nat) (b : Array Nat × Nat), b.2 ≤ lo → lo + k = n →
    ((List.range' lo k).foldl (occStep x sub n limit) b).1.toList = b.1.toList ++ ((List.range' lo k).filter fun i => Builtin.Str.subAt x sub i).take (limit - b.1.size)
  | 0, lo, b, _, _ => by simp
  | k + 1, lo, b, hb, hn => by
    rw [List.range'_succ, List.foldl_cons, List.filter_cons]
    unfold occStep
    rw [h1]
    by_cases c : Builtin.Str.subAt x sub lo = true
    · rw [if_pos c]
      by_cases c2 : b.1.size < limit
      · have e : (decide (b.1.size < limit) && decide (b.2 ≤ lo) && decide (lo + 1 ≤ n) && Builtin.Str.subAt x sub lo) = true := by
          rw [c, decide_eq_true c2, decide_eq_true hb, decide_eq_true (by omega)]; rfl
        rw [if_pos e]
        have ih := occ_go (x := x) (sub := sub) h1 (n := n) (limit := limit) k (lo + 1) (b.1.push lo, lo + 1) (Nat.le_refl _) (by omega)
        unfold occStep at ih
        rw [h1] at ih
        rw [ih, Array.toList_push]
        obtain ⟨j, hj⟩ : ∃ j, limit - b.1.size = j + 1 := ⟨limit - b.1.size - 1, by omega⟩
        rw [Array.size_push, hj, List.take_succ_cons, List.append_assoc, show limit - (b.1.size + 1) = j by omega]
        rfl
      · have e : ¬ (decide (b.1.size < limit) && decide (b.2 ≤ lo) && decide (lo + 1 ≤ n) && Builtin.Str.subAt x sub lo) = true := by
          rw [decide_eq_false c2]; simp
        rw [if_neg e]
        have ih := occ_go (x := x) (sub := sub) h1 (n := n) (limit := limit) k (lo + 1) b (by omega) (by omega)
        unfold occStep at ih
        rw [h1] at ih
        rw [show ((b.1, b.2) : Array Nat × Nat) = b from rfl, ih, show limit - b.1.size = 0 by omega, List.take_zero, List.take_zero]
    · rw [if_neg c]
      have e : ¬ (decide (b.1.size < limit) && decide (b.2 ≤ lo) && decide (lo + 1 ≤ n) && Builtin.Str.subAt x sub lo) = true := by
        rw [show Builtin.Str.subAt x sub lo = false from by simpa using c]; simp
      rw [if_neg e]
      have ih := occ_go (x := x) (sub := sub) h1 (n := n) (limit := limit) k (lo + 1) b (by omega) (by omega)
      unfold occStep at ih
      rw [h1] at ih
      rw [show ((b.1, b.2) : Array Nat × Nat) = b from rfl, ih]
theorem occ_one {x sub : Str} (h1 : sub.length = 1) (limit : Nat) : Builtin.Str.occurrences x sub 0 x.length limit = ((List.range x.length).filter fun i => Builtin.Str.subAt x sub i).take limit := by
  rw [occ_fold, List.range_succ, List.foldl_append]
  have h := occ_go (x := x) (sub := sub) h1 (n := x.length) (limit := limit) x.length 0 (#[], 0) (Nat.le_refl _) (by omega)
  rw [← List.range_eq_range'] at h
  show (occStep x sub x.length limit ((List.range x.length).foldl (occStep x sub x.length limit) (#[], 0)) x.length).1.toList = _
  have e : ∀ b : Array Nat × Nat, (occStep x sub x.length limit b x.length).1 = b.1 := fun b => by
    unfold occStep
    rw [if_neg]
    rw [h1, decide_eq_false (by omega : ¬ x.length + 1 ≤ x.length)]
    simp
  rw [e, h]
  rfl
theorem sub_at {x sub : Str} {c : Nat} (hs : sub.cps = #[c]) (i : Nat) : Builtin.Str.subAt x sub i = decide (x.cps.toList[i]? = some c) := by
  unfold Builtin.Str.subAt
  have hl : sub.length = 1 := by unfold Str.length; rw [hs]; rfl
  rw [hl, hs]
  have e : (x.cps.extract i (i + 1)).toList = (x.cps.toList.drop i).take 1 := by
    rw [Array.toList_extract, List.extract_eq_take_drop]
    congr 1
    omega
  rw [Bool.eq_iff_iff, decide_eq_true_eq, beq_iff_eq, ← Array.toList_inj, e]
  cases h : x.cps.toList[i]? with
  | none =>
    have : x.cps.toList.drop i = [] := List.drop_eq_nil_iff.mpr (List.getElem?_eq_none_iff.mp h)
    rw [this]
    simp
  | some y =>
    have hi := (List.getElem?_eq_some_iff.mp h)
    obtain ⟨hl, hy⟩ := hi
    rw [List.drop_eq_getElem_cons hl, hy]
    simp
/-- the places of one sign -/
theorem filt_pre {l : List Nat} {c : Nat} : ∀ (la lb : List Nat), c ∉ la → ((List.range (la ++ c :: lb).length).filter fun i => decide ((la ++ c :: lb)[i]? = some c)) = la.length :: (((List.range lb.length).filter fun i => decide (lb[i]? = some c)).map fun i => la.length + 1 + i)
  | la, lb, h => by
    have e1 : (la ++ c :: lb).length = la.length + (1 + lb.length) := by rw [List.length_append, List.length_cons]; omega
    rw [e1, List.range_add, List.filter_append]
    have e2 : ((List.range la.length).filter fun i => decide ((la ++ c :: lb)[i]? = some c)) = [] := by
      refine List.filter_eq_nil_iff.mpr fun i hi => ?_
      have hi := List.mem_range.mp hi
      rw [List.getElem?_append_left hi]
      simp only [decide_eq_true_eq]
      intro w
      exact h (List.mem_of_getElem? w)
    rw [e2, List.nil_append, List.range_add, List.map_append, List.filter_append]
    have e3 : ((List.map (fun i => la.length + i) (List.range 1)).filter fun i => decide ((la ++ c :: lb)[i]? = some c)) = [la.length] := by
      have : List.map (fun i => la.length + i) (List.range 1) = [la.length] := rfl
      rw [this, List.filter_cons, if_pos]
      · rfl
      · rw [List.getElem?_append_right (Nat.le_refl _), Nat.sub_self]; simp
    rw [e3]
    show la.length :: _ = la.length :: _
    congr 1
    rw [List.map_map, List.filter_map]
    have e4 : ((fun i => decide ((la ++ c :: lb)[i]? = some c)) ∘ ((fun i => la.length + i) ∘ fun i => 1 + i)) = fun i => decide (lb[i]? = some c) := by
      funext i
      show decide ((la ++ c :: lb)[la.length + (1 + i)]? = some c) = _
      rw [List.getElem?_append_right (by omega), show la.length + (1 + i) - la.length = i + 1 by omega, List.getElem?_cons_succ]
    rw [e4]
    refine List.map_congr_left fun i _ => ?_
    show la.length + (1 + i) = la.length + 1 + i
    omega
def bl1 : Str := " "
theorem bl_cps : (" " : Str).cps = #[32] := by decide +kernel
theorem strl_ext {a b : Str} (h : a.cps.toList = b.cps.toList) : a = b := by
  cases a; cases b
  have := Array.toList_inj.mp h
  rw [Str.mk.injEq]; exact this
theorem occ_bl {x : Str} (limit : Nat) : Builtin.Str.occurrences x " " 0 x.length limit = ((List.range x.cps.toList.length).filter fun i => decide (x.cps.toList[i]? = some 32)).take limit := by
  have hl : (" " : Str).length = 1 := by unfold Str.length; rw [bl_cps]; rfl
  rw [occ_one hl]
  have e : x.length = x.cps.toList.length := by unfold Str.length; rw [Array.length_toList]
  rw [e]
  congr 1
  refine List.filter_congr fun i _ => ?_
  rw [sub_at bl_cps]
theorem drop_one {a b : List Nat} {c : Nat} : (a ++ c :: b).drop (a.length + 1) = b := by
  rw [← List.drop_drop, List.drop_left]
  rfl
/-- parted at the first blank -/
theorem part_bl {x a b : Str} (h : x.cps.toList = a.cps.toList ++ 32 :: b.cps.toList) (n : 32 ∉ a.cps.toList) : Txt.partition x " " = (a, (" " : Str), b) := by
  have o := occ_bl (x := x) 1
  rw [h, filt_pre a.cps.toList b.cps.toList n (l := [])] at o
  unfold Txt.partition
  rw [o]
  have hl : (" " : Str).length = 1 := by unfold Str.length; rw [bl_cps]; rfl
  have e1 : Builtin.Str.strSub x 0 a.cps.toList.length = a := strl_ext (by
    unfold Builtin.Str.strSub
    rw [Array.toList_extract, List.extract_eq_take_drop, h]
    simp)
  have e2 : Builtin.Str.strSub x (a.cps.toList.length + 1) x.length = b := strl_ext (by
    unfold Builtin.Str.strSub
    have hx : x.length = x.cps.toList.length := by unfold Str.length; rw [Array.length_toList]
    rw [Array.toList_extract, List.extract_eq_take_drop, hx, h, drop_one]
    exact List.take_of_length_le (by rw [List.length_append, List.length_cons]; omega))
  show (Builtin.Str.strSub x 0 a.cps.toList.length, (" " : Str), Builtin.Str.strSub x (a.cps.toList.length + (" " : Str).length) x.length) = _
  rw [hl, e1, e2]
theorem part_no {x : Str} (n : 32 ∉ x.cps.toList) : Txt.partition x " " = (x, Str.empty, Str.empty) := by
  have o := occ_bl (x := x) 1
  have e : ((List.range x.cps.toList.length).filter fun i => decide (x.cps.toList[i]? = some 32)) = [] := by
    refine List.filter_eq_nil_iff.mpr fun i hi => ?_
    simp only [decide_eq_true_eq]
    intro w
    exact n (List.mem_of_getElem? w)
  rw [e] at o
  unfold Txt.partition
  rw [o]
  rfl
/-- the second word of a text with a blank on either side of it -/
theorem split_two {x a b c : Str} (h : x.cps.toList = a.cps.toList ++ 32 :: (b.cps.toList ++ 32 :: c.cps.toList)) (na : 32 ∉ a.cps.toList) (nb : 32 ∉ b.cps.toList) : ∃ r, Txt.split x " " = a :: b :: r := by
  have hl : (" " : Str).length = 1 := by unfold Str.length; rw [bl_cps]; rfl
  have hx : x.length = x.cps.toList.length := by unfold Str.length; rw [Array.length_toList]
  have o := occ_bl (x := x) (x.length + 1)
  have hb : ∃ lb, lb = b.cps.toList ++ 32 :: c.cps.toList := ⟨_, rfl⟩
  obtain ⟨lb, hlb⟩ := hb
  rw [h, ← hlb, filt_pre a.cps.toList lb na (l := []), hlb, filt_pre b.cps.toList c.cps.toList nb (l := [])] at o
  have len3 : x.cps.toList.length = a.cps.toList.length + (b.cps.toList.length + (c.cps.toList.length + 1) + 1) := by rw [h, List.length_append, List.length_cons, List.length_append, List.length_cons]
  obtain ⟨m, hm⟩ : ∃ m, x.length + 1 = m + 2 := ⟨x.length - 1, by omega⟩
  rw [hm, List.map_cons, List.take_succ_cons, List.take_succ_cons] at o
  unfold Txt.split
  have c1 : ¬ (decide (x.length < (" " : Str).length) || decide (Builtin.Str.strKind x < Builtin.Str.strKind " ")) = true := by
    have k1 : Builtin.Str.strKind " " = 1 := by decide +kernel
    have k2 : ¬ Builtin.Str.strKind x < 1 := by
      unfold Builtin.Str.strKind
      split
      · omega
      · split <;> omega
    rw [hl, k1, decide_eq_false (by omega : ¬ x.length < 1), decide_eq_false k2]
    simp
  rw [if_neg c1, hm, o, if_neg (by simp)]
  unfold Builtin.Str.partsBetween
  have e1 : Builtin.Str.strSub x 0 a.cps.toList.length = a := strl_ext (by
    unfold Builtin.Str.strSub
    rw [Array.toList_extract, List.extract_eq_take_drop, h]
    simp)
  have e2 : Builtin.Str.strSub x (a.cps.toList.length + 1) (a.cps.toList.length + 1 + b.cps.toList.length) = b := strl_ext (by
    unfold Builtin.Str.strSub
    rw [Array.toList_extract, List.extract_eq_take_drop, h, drop_one, show a.cps.toList.length + 1 + b.cps.toList.length - (a.cps.toList.length + 1) = b.cps.toList.length by omega]
    exact List.take_left)
  rw [hl]
  simp only [List.map_cons, List.cons_append, List.zip_cons_cons, e1, e2]
  exact ⟨_, rfl⟩
end Aw

namespace Aw
open PySem L2
/-! ### a text by its words -/
/-- a word of one kind of signs, or one sign by itself -/
def atomB (w : Str) : Bool := (decide (1 ≤ w.length) && w.cps.toList.all fun c => decide (kindM c = some .letter)) || (decide (1 ≤ w.length) && w.cps.toList.all fun c => decide (kindM c = some .figure)) ||
  (match w.cps.toList with
  | [c] => decide (kindM c = some .other) || decide (kindM c = none)
  | _ => false)
/-- a word that the law may put -/
def WordOk (w : Str) : Prop := atomB w = true ∧ w.length ≤ 10 ∧ PyData.strOk w = true
instance (w : Str) : Decidable (WordOk w) := by unfold WordOk; infer_instance
def GA (w : Str) : Prop := Lx w [w] ∧ ¬ w = Str.empty
def BA (w : Str) : Prop := ∃ c, w = sg1 c ∧ kindM c = none
theorem sg1_of {w : Str} {c : Nat} (h : w.cps.toList = [c]) : w = sg1 c := by
  rw [← str_eta w, h]
  rfl
theorem ne_of_len {w : Str} (h : 1 ≤ w.length) : ¬ w = Str.empty := fun e => by
  rw [e] at h
  exact absurd h (by decide +kernel)
theorem atom_or {w : Str} (h : atomB w = true) : GA w ∨ BA w := by
  unfold atomB at h
  rcases Bool.or_eq_true_iff.mp h with h | h
  · rcases Bool.or_eq_true_iff.mp h with h | h
    · have q := Bool.and_eq_true_iff.mp h
      have h1 := of_decide_eq_true q.1
      have h2 := List.all_eq_true.mp q.2
      exact .inl ⟨fun rest ws b hb => ⟨.letter, lex_word (.inl rfl) h1 (fun c hc => of_decide_eq_true (h2 c hc)) rest ws hb⟩, ne_of_len h1⟩
    · have q := Bool.and_eq_true_iff.mp h
      have h1 := of_decide_eq_true q.1
      have h2 := List.all_eq_true.mp q.2
      exact .inl ⟨fun rest ws b hb => ⟨.figure, lex_word (.inr rfl) h1 (fun c hc => of_decide_eq_true (h2 c hc)) rest ws hb⟩, ne_of_len h1⟩
  · cases e : w.cps.toList with
    | nil => rw [e] at h; cases h
    | cons c r =>
      cases r with
      | cons d r => rw [e] at h; cases h
      | nil =>
        rw [e] at h
        have ew := sg1_of e
        rcases Bool.or_eq_true_iff.mp h with h | h
        · have k := of_decide_eq_true h
          refine .inl ⟨fun rest ws b hb => ⟨.other, ?_⟩, ne_of_len (by rw [ew]; exact Nat.le_refl 1)⟩
          rw [e]
          show lexGo (c :: rest) ws b = _
          rw [lex_other k, ew]
        · exact .inr ⟨c, ew, of_decide_eq_true h⟩
theorem join_cons (w v : Str) (r : List Str) : Str.join " " (w :: v :: r) = w ++ " " ++ Str.join " " (v :: r) := rfl
theorem lx_join : ∀ {ws : List Str}, (∀ w ∈ ws, GA w) → Lx (Str.join " " ws) ws
  | [], _ => fun rest ws b hb => ⟨b, by rw [List.append_nil]; rfl⟩
  | [w], h => (h w List.mem_cons_self).1
  | w :: v :: r, h => fun rest ws b hb => by
    obtain ⟨b1, e1⟩ := (h w List.mem_cons_self).1 ((" " : Str).cps.toList ++ ((Str.join " " (v :: r)).cps.toList ++ rest)) ws b hb
    obtain ⟨b2, e2⟩ := lx_join (ws := v :: r) (fun x hx => h x (List.mem_cons_of_mem _ hx)) rest (ws ++ [w]) .blank (.inr rfl)
    refine ⟨b2, ?_⟩
    rw [join_cons, cps_app, cps_app, List.append_assoc, List.append_assoc, e1, lex_sp, e2]
    simp
theorem lex_bad {c : Nat} (h : kindM c = none) (r : List Nat) (ws : List Str) (b : Kn) : lexGo (c :: r) ws b = none := by
  unfold lexGo
  rw [h]
theorem lx_none : ∀ {ws : List Str}, (∀ w ∈ ws, GA w ∨ BA w) → (∃ w ∈ ws, BA w) → ∀ (rest : List Nat) (acc : List Str) (b : Kn), Sep b → lexGo ((Str.join " " ws).cps.toList ++ rest) acc b = none
  | [], _, h, _, _, _, _ => by obtain ⟨w, hw, _⟩ := h; cases hw
  | [w], _, h, rest, acc, b, hb => by
    obtain ⟨x, hx, c, ec, kc⟩ := h
    rw [List.mem_singleton.mp hx] at ec
    show lexGo (w.cps.toList ++ rest) acc b = none
    rw [ec]
    exact lex_bad kc _ _ _
  | w :: v :: r, ha, h, rest, acc, b, hb => by
    rw [join_cons, cps_app, cps_app, List.append_assoc, List.append_assoc]
    rcases ha w List.mem_cons_self with g | ⟨c, ec, kc⟩
    · by_cases hw : BA w
      · obtain ⟨c, ec, kc⟩ := hw
        rw [ec]
        exact lex_bad kc _ _ _
      · obtain ⟨b1, e1⟩ := g.1 ((" " : Str).cps.toList ++ ((Str.join " " (v :: r)).cps.toList ++ rest)) acc b hb
        rw [e1, lex_sp]
        obtain ⟨x, hx, bx⟩ := h
        exact lx_none (ws := v :: r) (fun x hx => ha x (List.mem_cons_of_mem _ hx)) ⟨x, (List.mem_cons.mp hx).resolve_left fun e => hw (e ▸ bx), bx⟩ rest (acc ++ [w]) .blank (.inr rfl)
    · rw [ec]
      exact lex_bad kc _ _ _
theorem lex_blanks : ∀ (n : Nat) (ws : List Str) (b : Kn), lexGo (List.replicate n 32) ws b = some ws
  | 0, ws, b => rfl
  | n + 1, ws, b => by
    rw [List.replicate_succ, lex_blank (by decide +kernel)]
    exact lex_blanks n ws .blank
theorem ba_not {w : Str} (h : BA w) : ¬ GoodW w := by
  obtain ⟨c, ec, kc⟩ := h
  have kn : ∀ k, kindM c = some k → False := fun k e => by rw [kc] at e; cases e
  have hc : c ∈ w.cps.toList := by rw [ec]; exact List.mem_cons_self
  rintro (g | ⟨n, g⟩ | g | g | g | g | ⟨k, g⟩)
  · exact kn _ (kind_let ((name_facts g).2.2 c hc))
  · obtain ⟨a, b, e⟩ := numM_some g
    rw [e] at hc
    exact kn _ (kind_fig ((num_facts ⟨a, b⟩).2.1 c hc))
  · rw [g] at hc
    rw [show c = 40 from List.mem_singleton.mp hc] at kc
    exact absurd kc (by decide +kernel)
  · rw [g] at hc
    rw [show c = 41 from List.mem_singleton.mp hc] at kc
    exact absurd kc (by decide +kernel)
  · rw [g] at hc
    rw [show c = 91 from List.mem_singleton.mp hc] at kc
    exact absurd kc (by decide +kernel)
  · rw [g] at hc
    rw [show c = 93 from List.mem_singleton.mp hc] at kc
    exact absurd kc (by decide +kernel)
  · have q : ∀ k : Kd, ∀ c ∈ k.sg.cps.toList, ¬ kindM c = none := by intro k; cases k <;> decide +kernel
    rw [g] at hc
    exact q k c hc kc
/-- what the text is read to, by its words -/
def byWords (ws : List Str) (z : Str) : Option T := match levelM ws (pieceM ws 3) kinds 0 with
  | none => none
  | some (t, j) => if j = ws.length ∧ ws.length ≤ 40 ∧ z.length ≤ 400 then some t else none
theorem read_lex {z : Str} {ws : List Str} (h : lexM z = some ws) (hne : ∀ w ∈ ws, ¬ w = Str.empty) : readM z = byWords ws z := by
  unfold readM byWords
  by_cases c : 400 < z.length
  · rw [if_pos c]
    cases levelM ws (pieceM ws 3) kinds 0 with
    | none => rfl
    | some r =>
      obtain ⟨t, j⟩ := r
      dsimp only
      rw [if_neg (by omega)]
  · rw [if_neg c, h]
    dsimp only
    by_cases c2 : 40 < ws.length
    · rw [if_pos c2]
      cases levelM ws (pieceM ws 3) kinds 0 with
      | none => rfl
      | some r =>
        obtain ⟨t, j⟩ := r
        dsimp only
        rw [if_neg (by omega)]
    · rw [if_neg c2]
      cases e : levelM ws (pieceM ws 3) kinds 0 with
      | none => rfl
      | some r =>
        obtain ⟨t, j⟩ := r
        dsimp only
        have R := level_fit (piece_fit 3) _ _ _ e
        by_cases c3 : j = ws.length
        · rw [if_pos (wd_end (by omega)), if_pos ⟨c3, by omega, by omega⟩]
        · have hj : j < ws.length := by have := R.le; omega
          rw [if_neg (hne _ (List.mem_of_getElem? (wd_get hj))), if_neg fun w => c3 w.1]
theorem read_none {z : Str} {ws : List Str} (h : lexM z = none) (hb : ∃ w ∈ ws, BA w) : readM z = none ∧ byWords ws z = none := by
  constructor
  · unfold readM
    rw [h]
    split <;> rfl
  · unfold byWords
    cases e : levelM ws (pieceM ws 3) kinds 0 with
    | none => rfl
    | some r =>
      obtain ⟨t, j⟩ := r
      dsimp only
      have R := level_fit (piece_fit 3) _ _ _ e
      rw [if_neg]
      rintro ⟨c, _⟩
      obtain ⟨w, hw, bw⟩ := hb
      obtain ⟨m, hm, em⟩ := List.getElem_of_mem hw
      have g := R.gd m (Nat.zero_le _) (by omega)
      have e2 := wd_get hm
      rw [List.getElem?_eq_getElem hm, em] at e2
      rw [← Option.some.inj e2] at g
      exact ba_not bw g
/-- a text that is made of words, with a blank between each two, and blanks behind -/
theorem read_join {z : Str} {ws : List Str} (ha : ∀ w ∈ ws, atomB w = true) (n : Nat) (hz : z.cps.toList = (Str.join " " ws).cps.toList ++ List.replicate n 32) : readM z = byWords ws z := by
  by_cases hb : ∃ w ∈ ws, BA w
  · have e : lexM z = none := by
      unfold lexM
      rw [hz]
      exact lx_none (fun w hw => atom_or (ha w hw)) hb _ _ _ (.inr rfl)
    obtain ⟨a, b⟩ := read_none e hb
    rw [a, b]
  · have g : ∀ w ∈ ws, GA w := fun w hw => (atom_or (ha w hw)).resolve_right fun b => hb ⟨w, hw, b⟩
    obtain ⟨b, e⟩ := lx_join g (List.replicate n 32) [] .blank (.inr rfl)
    refine read_lex (ws := ws) ?_ fun w hw => (g w hw).2
    unfold lexM
    rw [hz, e, lex_blanks, List.nil_append]
/-! ### words that may be put -/
theorem wordOk_name {s : Str} (h : NameOk s) : WordOk s := by
  obtain ⟨h1, h6, h3⟩ := name_facts h
  refine ⟨?_, by omega, strOk_name h⟩
  unfold atomB
  rw [decide_eq_true h1, Bool.true_and, List.all_eq_true.mpr fun c hc => decide_eq_true (kind_let (h3 c hc))]
  rfl
theorem wordOk_num {n : Int} (h : 0 ≤ n ∧ n ≤ 30) : WordOk (tx n) := by
  have q : ∀ k : Nat, k < 31 → WordOk (tx (k : Int)) := by decide +kernel
  have e := q n.toNat (by omega)
  rwa [show ((n.toNat : Nat) : Int) = n by omega] at e
/-! ### a text taken apart at blanks and brackets, as the law does it -/
def isBr (c : Nat) : Bool := decide (c ∈ (("()[]" : Str)).cps.toList)
def lwGo : List Nat → List Str → Str → List Str × Str
  | [], o, l => (o, l)
  | c :: r, o, l => if c = 32 then lwGo r (o ++ [l]) Str.empty else if isBr c = true then lwGo r (o ++ [l, sg1 c]) Str.empty else lwGo r o (l ++ sg1 c)
def EW (w : Str) : Prop := w = Str.empty ∨ WordOk w
def EWs (o : List Str) : Prop := ∀ w ∈ o, EW w
theorem EWs.snoc {o : List Str} {l : Str} (h : EWs o) (e : EW l) : EWs (o ++ [l]) := fun w hw => by
  rcases List.mem_append.mp hw with q | q
  · exact h w q
  · rw [List.mem_singleton.mp q]; exact e
theorem lw_bl (r : List Nat) (o : List Str) (l : Str) : lwGo (32 :: r) o l = lwGo r (o ++ [l]) Str.empty := by
  conv => lhs; unfold lwGo
  rw [if_pos rfl]
theorem lw_br {c : Nat} (h : isBr c = true) (hn : ¬ c = 32) (r : List Nat) (o : List Str) (l : Str) : lwGo (c :: r) o l = lwGo r (o ++ [l, sg1 c]) Str.empty := by
  conv => lhs; unfold lwGo
  rw [if_neg hn, if_pos h]
theorem lw_word : ∀ (cs : List Nat), (∀ c ∈ cs, ¬ c = 32 ∧ isBr c = false) → ∀ (r : List Nat) (o : List Str) (l : Str), lwGo (cs ++ r) o l = lwGo r o (l ++ ⟨cs.toArray⟩)
  | [], _, r, o, l => by
    have e : l ++ (⟨([] : List Nat).toArray⟩ : Str) = l := by
      show (⟨l.cps ++ #[]⟩ : Str) = l
      rw [Array.append_empty]
    rw [e]; rfl
  | c :: cs, h, r, o, l => by
    obtain ⟨h1, h2⟩ := h c List.mem_cons_self
    rw [List.cons_append]
    conv => lhs; unfold lwGo
    rw [if_neg h1, if_neg (by rw [h2]; decide), lw_word cs (fun x hx => h x (List.mem_cons_of_mem _ hx)) r o (l ++ sg1 c)]
    congr 1
    show (⟨(l.cps ++ #[c]) ++ cs.toArray⟩ : Str) = ⟨l.cps ++ (c :: cs).toArray⟩
    congr 1
    rw [Array.append_assoc]
    congr 1
    simp
theorem app_nil (l : Str) : Str.empty ++ l = l := by
  show (⟨#[] ++ l.cps⟩ : Str) = l
  rw [Array.empty_append]
theorem lw_plain {z : Str} (h : ∀ c ∈ z.cps.toList, ¬ c = 32 ∧ isBr c = false) (r : List Nat) (o : List Str) : lwGo (z.cps.toList ++ r) o Str.empty = lwGo r o z := by
  rw [lw_word _ h, app_nil, str_eta]
theorem let_plain {c : Nat} (h : c ∈ LET) : ¬ c = 32 ∧ isBr c = false := by
  have q : ∀ c ∈ LET, ¬ c = 32 ∧ isBr c = false := by decide +kernel
  exact q c h
theorem fig_plain {c : Nat} (h : c ∈ FIG) : ¬ c = 32 ∧ isBr c = false := by
  have q : ∀ c ∈ FIG, ¬ c = 32 ∧ isBr c = false := by decide +kernel
  exact q c h
theorem sg_plain {k : Kd} {c : Nat} (h : c ∈ k.sg.cps.toList) : ¬ c = 32 ∧ isBr c = false := by
  have q : ∀ k : Kd, ∀ c ∈ k.sg.cps.toList, ¬ c = 32 ∧ isBr c = false := by intro k; cases k <;> decide +kernel
  exact q k c h
/-- from a place between words on, only words come -/
def Lw (z : Str) : Prop := ∀ (r : List Nat) (o : List Str), EWs o → ∃ o' l', EWs o' ∧ EW l' ∧ lwGo (z.cps.toList ++ r) o Str.empty = lwGo r o' l'
theorem wordOk_br {c : Nat} (h : isBr c = true) : WordOk (sg1 c) := by
  have q : ∀ c ∈ (("()[]" : Str)).cps.toList, WordOk (sg1 c) := by decide +kernel
  exact q c (of_decide_eq_true h)
theorem lw_brk {c : Nat} (h : isBr c = true) (hn : ¬ c = 32) {o : List Str} {l : Str} (ho : EWs o) (hl : EW l) : EWs (o ++ [l, sg1 c]) := by
  rw [show o ++ [l, sg1 c] = (o ++ [l]) ++ [sg1 c] by simp]
  exact (ho.snoc hl).snoc (.inr (wordOk_br h))
theorem lw_wrs {k : Kd} {f : Int} : ∀ {ts : List T}, ts ≠ [] → (∀ t ∈ ts, Lw (wr f t)) → Lw (wrs k.sep f ts)
  | [], h, _ => absurd rfl h
  | [t], _, h => by rw [wrs_one]; exact h t (List.mem_singleton.mpr rfl)
  | t :: u :: r', _, h => by
    rw [wrs_two]
    intro r o ho
    obtain ⟨o1, l1, a1, b1, e1⟩ := h t List.mem_cons_self (k.sep.cps.toList ++ ((wrs k.sep f (u :: r')).cps.toList ++ r)) o ho
    have es : k.sep.cps.toList = [32] ++ k.sg.cps.toList ++ [32] := by cases k <;> decide +kernel
    have wk : WordOk k.sg := by cases k <;> decide +kernel
    obtain ⟨o2, l2, a2, b2, e2⟩ := lw_wrs (ts := u :: r') (k := k) (f := f) (by intro z; cases z) (fun t ht => h t (List.mem_cons_of_mem _ ht)) r (o1 ++ [l1] ++ [k.sg]) ((a1.snoc b1).snoc (.inr wk))
    refine ⟨o2, l2, a2, b2, ?_⟩
    rw [cps_app, cps_app, List.append_assoc, List.append_assoc, e1, es]
    simp only [List.append_assoc, List.singleton_append, List.cons_append, List.nil_append]
    rw [lw_bl, lw_plain (fun c hc => sg_plain hc), lw_bl]
    exact e2
theorem lw_wr : ∀ (d : Nat) {t : T} (f : Int), TOk NameOk d t → Lw (wr f t)
  | d, .num n, f, h => fun r o ho => ⟨o, tx n, ho, .inr (wordOk_num h.num), by
      unfold wr
      exact lw_plain (fun c hc => fig_plain ((num_facts h.num).2.1 c hc)) r o⟩
  | d, .name s, f, h => fun r o ho => ⟨o, s, ho, .inr (wordOk_name h.name), by
      unfold wr
      exact lw_plain (fun c hc => let_plain ((name_facts h.name).2.2 c hc)) r o⟩
  | 0, .gate _ _ _, _, h => h.elim
  | 0, .join _ _, _, h => h.elim
  | d + 1, .gate s n t, f, h => fun r o ho => by
    obtain ⟨h1, h2, h3, h4⟩ := h
    have b91 : isBr 91 = true := by decide +kernel
    have b93 : isBr 93 = true := by decide +kernel
    obtain ⟨o2, l2, a2, b2, e2⟩ := lw_wr d 4 h4 r (o ++ [Str.empty, sg1 91] ++ [s] ++ [tx n, sg1 93] ++ [Str.empty]) ((lw_brk b93 (by decide) ((lw_brk b91 (by decide) ho (.inl rfl)).snoc (.inr (wordOk_name h1))) (.inr (wordOk_num ⟨by omega, h3⟩))).snoc (.inl rfl))
    refine ⟨o2, l2, a2, b2, ?_⟩
    unfold wr
    rw [cps_app, cps_app, cps_app, cps_app, cps_app]
    rw [show ("[" : Str).cps.toList = [91] by decide +kernel, show (" " : Str).cps.toList = [32] by decide +kernel, show ("] " : Str).cps.toList = [93, 32] by decide +kernel]
    simp only [List.append_assoc, List.singleton_append, List.cons_append, List.nil_append]
    rw [lw_br b91 (by decide), lw_plain (fun c hc => let_plain ((name_facts h1).2.2 c hc)), lw_bl, lw_plain (fun c hc => fig_plain ((num_facts ⟨by omega, h3⟩).2.1 c hc)), lw_br b93 (by decide), lw_bl]
    exact e2
  | d + 1, .join k ts, f, h => fun r o ho => by
    obtain ⟨h1, h2, h3⟩ := h
    have hne : ts ≠ [] := by intro z; subst z; simp at h1
    have L : Lw (wrs k.sep (k.rank + 1) ts) := lw_wrs hne fun t ht => lw_wr d _ (h3 t ht)
    have b40 : isBr 40 = true := by decide +kernel
    have b41 : isBr 41 = true := by decide +kernel
    unfold wr
    by_cases c : k.rank < f
    · rw [if_pos c]
      obtain ⟨o1, l1, a1, b1, e1⟩ := L ((41 :: r)) (o ++ [Str.empty, sg1 40]) (lw_brk b40 (by decide) ho (.inl rfl))
      refine ⟨o1 ++ [l1, sg1 41], Str.empty, lw_brk b41 (by decide) a1 b1, .inl rfl, ?_⟩
      rw [cps_app, cps_app, show ("(" : Str).cps.toList = [40] by decide +kernel, show (")" : Str).cps.toList = [41] by decide +kernel]
      simp only [List.append_assoc, List.singleton_append, List.cons_append, List.nil_append]
      rw [lw_br b40 (by decide), e1, lw_br b41 (by decide)]
    · rw [if_neg c]
      exact L r o ho
/-- every text is a row of parts without blanks -/
theorem parts_of : ∀ l : List Nat, ∃ ps : List Str, ps ≠ [] ∧ (∀ p ∈ ps, 32 ∉ p.cps.toList) ∧ (Str.join " " ps).cps.toList = l
  | [] => ⟨[Str.empty], by simp, fun p hp => by rw [List.mem_singleton.mp hp]; exact List.not_mem_nil, rfl⟩
  | c :: r => by
    obtain ⟨ps, h0, h1, h2⟩ := parts_of r
    match ps, h0 with
    | p :: qs, _ =>
      by_cases e : c = 32
      · refine ⟨Str.empty :: p :: qs, by simp, fun q hq => ?_, ?_⟩
        · rcases List.mem_cons.mp hq with z | z
          · rw [z]; exact List.not_mem_nil
          · exact h1 q z
        · rw [join_cons, cps_app, cps_app, h2, e]
          rfl
      · refine ⟨(sg1 c ++ p) :: qs, by simp, fun q hq => ?_, ?_⟩
        · rcases List.mem_cons.mp hq with z | z
          · rw [z, cps_app]
            intro w
            rcases List.mem_append.mp w with w | w
            · exact e (List.mem_singleton.mp w).symm
            · exact h1 p List.mem_cons_self w
          · exact h1 q (List.mem_cons_of_mem _ z)
        · cases qs with
          | nil =>
            show (sg1 c ++ p).cps.toList = _
            rw [cps_app, show p.cps.toList = r from h2]
            rfl
          | cons q qs =>
            rw [join_cons, cps_app, cps_app] at h2 ⊢
            rw [cps_app, List.append_assoc, List.append_assoc, ← List.append_assoc p.cps.toList, h2]
            rfl
/-- the parts one after another: behind each one the word that is left -/
def lwParts : List Str → List Str → List Str
  | [], o => o
  | p :: r, o => lwParts r ((lwGo p.cps.toList o Str.empty).1 ++ [(lwGo p.cps.toList o Str.empty).2])
theorem lw_app : ∀ (a b : List Nat) (o : List Str) (l : Str), lwGo (a ++ b) o l = lwGo b (lwGo a o l).1 (lwGo a o l).2
  | [], b, o, l => rfl
  | c :: a, b, o, l => by
    rw [List.cons_append]
    by_cases h1 : c = 32
    · rw [h1, lw_bl, lw_bl]
      exact lw_app a b _ _
    · by_cases h2 : isBr c = true
      · rw [lw_br h2 h1, lw_br h2 h1]
        exact lw_app a b _ _
      · have e : ∀ (r : List Nat), lwGo (c :: r) o l = lwGo r o (l ++ sg1 c) := fun r => by
          conv => lhs; unfold lwGo
          rw [if_neg h1, if_neg h2]
        rw [e, e]
        exact lw_app a b _ _
theorem lw_parts : ∀ (ps : List Str), ps ≠ [] → ∀ o, lwParts ps o = (lwGo (Str.join " " ps).cps.toList o Str.empty).1 ++ [(lwGo (Str.join " " ps).cps.toList o Str.empty).2]
  | [], h, _ => absurd rfl h
  | [p], _, o => rfl
  | p :: q :: r, _, o => by
    conv => lhs; unfold lwParts
    rw [lw_parts (q :: r) (by simp), join_cons, cps_app, cps_app, List.append_assoc, lw_app p.cps.toList, show (" " : Str).cps.toList = [32] by decide +kernel, List.singleton_append, lw_bl]
theorem lwGo_len : ∀ (a : List Nat) (o : List Str) (l : Str), (lwGo a o l).1.length ≤ o.length + 2 * a.length
  | [], o, l => by simp [lwGo]
  | c :: a, o, l => by
    unfold lwGo
    have e : (c :: a).length = a.length + 1 := rfl
    split
    · have := lwGo_len a (o ++ [l]) Str.empty
      rw [List.length_append, List.length_singleton] at this
      omega
    · split
      · have := lwGo_len a (o ++ [l, sg1 c]) Str.empty
        rw [List.length_append, show [l, sg1 c].length = 2 from rfl] at this
        omega
      · have := lwGo_len a o (l ++ sg1 c)
        omega
theorem lw_all {z : Str} (h : Lw z) : EWs ((lwGo z.cps.toList [] Str.empty).1 ++ [(lwGo z.cps.toList [] Str.empty).2]) := by
  obtain ⟨o, l, a, b, e⟩ := h [] [] (fun w hw => by cases hw)
  rw [List.append_nil] at e
  rw [e]
  show EWs (o ++ [l])
  exact a.snoc b
theorem lwGo_ge : ∀ (a : List Nat) (o : List Str) (l : Str), o.length ≤ (lwGo a o l).1.length
  | [], o, l => Nat.le_refl _
  | c :: a, o, l => by
    unfold lwGo
    split
    · have := lwGo_ge a (o ++ [l]) Str.empty
      rw [List.length_append] at this
      omega
    · split
      · have := lwGo_ge a (o ++ [l, sg1 c]) Str.empty
        rw [List.length_append] at this
        omega
      · exact lwGo_ge a o (l ++ sg1 c)
theorem part_len : ∀ {ps : List Str} {p : Str}, p ∈ ps → p.cps.toList.length ≤ (Str.join " " ps).cps.toList.length
  | [q], p, h => by rw [List.mem_singleton.mp h]; exact Nat.le_refl _
  | q :: r :: t, p, h => by
    rw [join_cons, cps_app, cps_app, List.length_append, List.length_append]
    rcases List.mem_cons.mp h with e | e
    · rw [e]; omega
    · have := part_len (ps := r :: t) e
      omega
end Aw

namespace Aw
open PySem L2 PySem.Spec PyProof.Rows
/-! ### except clauses, each with a name or without: what a list of them wishes is told clause by clause -/
/-- an exception that has come down to the clauses of X -/
structure Down (X : Cx) (pins : List (Addr × Obj)) (a : Addr) (B : Heap) (sI s : Shared) (h : Heap) (σ : L2.St) (H : Hp) (cls : Value) (d : Option Addr) : Prop where
  hs : X.stack = X.env :: X.outer
  hf : X.env.frame = some X.env.locals
  inv : Inv X pins σ H sI
  nb : ∀ b o, sI.heap.get? b = some o → b ∉ frs X.stack → B.get? b = some o
  up : sI.heap.UpToSlots h
  fl : HandSPX.FlyingZ B (X.env :: X.outer) a (Zc cls d) h
  na : H a = none
  os : s.os = sI.os
  ag : AllBare s.gens
section
variable {X : Cx} {pins : List (Addr × Obj)} {a : Addr} {B : Heap} {sI s : Shared} {h : Heap} {σ : L2.St} {H : Hp} {cls : Value} {d : Option Addr}
theorem Down.off (D : Down X pins a B sI s h σ H cls d) : a ≠ X.env.locals ∧ a ∉ X.fs := by
  obtain ⟨oe, vs, he, hz, hd⟩ := D.fl.there
  have key : a ∉ frs (X.env :: X.outer) := fun hm => by
    obtain ⟨_, o', e', n⟩ := D.fl.2.2.1.mem hm
    rw [he] at e'
    cases e'
    exact n _ hd
  refine ⟨fun z => key (List.mem_filterMap.mpr ⟨X.env, List.mem_cons_self, by rw [D.hf, z]⟩), fun hm => ?_⟩
  obtain ⟨e, he', q⟩ := List.mem_filterMap.mp hm
  exact key (List.mem_filterMap.mpr ⟨e, List.mem_cons_of_mem _ he', q⟩)
theorem Down.now (D : Down X pins a B sI s h σ H cls d) : Inv X pins σ H { s with heap := h } := D.inv.landed D.nb D.fl.1 D.up D.os D.ag
theorem Down.suite (D : Down X pins a B sI s h σ H cls d) : ∃ oe, Zc cls d oe ∧ (∃ vs, oe.data = .fields vs) ∧ h.get? a = some oe ∧ Inv (X.suite a ((a, oe) :: (X.pn ++ pins))) [] σ H { s with heap := h } := by
  obtain ⟨oe, vs, he, hz, hd⟩ := D.fl.there
  exact ⟨oe, hz, ⟨_, hd⟩, he, D.now.suite he hd D.na D.off.1 D.off.2⟩
end
abbrev WL := WX → Ends → WX
/-- a list of clauses does as W wishes -/
structure ClOk (X : Cx) (hds : List ExceptHandler) (W : WL) : Prop where
  run : ∀ {Wout : WX} (tk : Takes X Wout) {pins : List (Addr × Obj)} {a : Addr} {B : Heap} {sI s : Shared} {h : Heap} {σ : L2.St} {H : Hp} {cls : Value} {d : Option Addr} {D : Ends},
  Down X pins a B sI s h σ H cls d → W Wout D cls d σ H → wpAny (model X.prog X.w) X.A (handleBy (.ref a) X.env hds) (SP X pins D) X.xe { s with heap := h }
def wNil : WL := fun Wout _ => Wout
def wCl (K : PySem.W.Frag) (c : Value) (ts : Addr → Value → Option Addr → TS) (R : WL) : WL := fun Wout D cls d σ H => ∃ b, PySem.W.exmOne K cls c = some b ∧ (b = true → ∀ a, H a = none → ts a cls d D σ H) ∧ (b = false → R Wout D cls d σ H)
def wClAs (K : PySem.W.Frag) (c : Value) (i : Nat) (ts : Addr → Value → Option Addr → TS) (R : WL) : WL := fun Wout D cls d σ H => ∃ b, PySem.W.exmOne K cls c = some b ∧
  (b = true → ∀ a, H a = none → ts a cls d { nx := fun σ' H' => D.nx (σ'.set i none) H', rt := D.rt, bk := fun σ' H' => D.bk (σ'.set i none) H', ct := fun σ' H' => D.ct (σ'.set i none) H' } (σ.set i (some (.ref a))) H) ∧ (b = false → R Wout D cls d σ H)
section
variable {X : Cx}
theorem cl_nil : ClOk X [] wNil := by
  refine ⟨?_⟩
  intro Wout tk pins a B sI s h σ H cls d D dn w
  refine wpAny_handleBy_nil ?_
  obtain ⟨k1, k2, k3, oe, vs, T, oT, ts, he, hz, hd, h1, hr⟩ := id dn.fl
  unfold PySem.passOn
  refine wpAny_bind (wpAny_field he hd h1 ?_)
  rw [if_neg (show ¬ ((Value.ref T == Value.none) = true) from by simp)]
  have fin : wpAny (model X.prog X.w) X.A (setFlight (.ref a) X.env.frame) (fun _ s4 => wpAny (model X.prog X.w) X.A (throw (.ref a) : Sem Flow) (SP X pins D) X.xe s4) X.xe { s with heap := h } := by
    rw [dn.hf]
    exact HandSPX.setFlight_upZ dn.fl fun h4 hh4 up4 => wpAny_throw (tk _ _ ⟨a, B, sI, pins, σ, H, cls, d, rfl, dn.inv, dn.nb, dn.up.trans up4, .inr (.inr (by rw [dn.hs]; exact hh4)), dn.na, dn.os, dn.ag, w⟩)
  first
    | exact wpAny_bind (wpAny_pure (wpAny_bind fin))
    | exact wpAny_bind fin
/-- the test of a clause -/
theorem cl_test {x : Str} {c : Value} {np : Pos} (hc : Names X x c) {pins : List (Addr × Obj)} {a : Addr} {B : Heap} {sI s : Shared} {h : Heap} {σ : L2.St} {H : Hp} {cls : Value} {d : Option Addr} (dn : Down X pins a B sI s h σ H cls d)
    {Q E : Value → Shared → Prop} (q : Q c { s with heap := h }) : wpAny (model X.prog X.w) (X.A.mark (some (.ref a))) (eval (.Name x np) X.env) Q E { s with heap := h } := by
  obtain ⟨oe, hz, hd, he, S⟩ := dn.suite
  obtain ⟨hg, hdbg, hm | ⟨hm, hv, hnn⟩⟩ := hc
  · exact ld_glob (X := X.suite a ((a, oe) :: (X.pn ++ pins))) S hg hm q hdbg
  · exact ld_blt (X := X.suite a ((a, oe) :: (X.pn ++ pins))) S hg hm hv q hnn hdbg
section
variable {x n : Str} {c : Value} {i : Nat} {suite : List Stmt} {b₀ : Stmt} {np pos' : Pos} {ts : Addr → Value → Option Addr → TS} {hds : List ExceptHandler} {R : WL}
theorem cl_one (hc : Names X x c) (hsu : ∀ (a : Addr) (oe : Obj) (cls : Value) (d : Option Addr) (pn : List (Addr × Obj)), Zc cls d oe → (∃ vs, oe.data = .fields vs) → PSs (X.suite a ((a, oe) :: pn)) (b₀ :: suite) (ts a cls d)) (r : ClOk X hds R) :
    ClOk X (.ExceptHandler (some (.Name x np)) none (b₀ :: suite) pos' :: hds) (wCl X.K c ts R) := by
  refine ⟨?_⟩
  intro Wout tk pins a B sI s h σ H cls d D dn ⟨b, hb, hyes, hno⟩
  obtain ⟨oe, hz, hd, he, S⟩ := dn.suite
  refine wpAny_handleBy_cons (codeAny_handlers_test ?_) (by intro q; cases q)
  have LT : PySem.W.Looks (model X.prog X.w) h (typeOf (.ref a)) cls := fun A Q E s k q => wpAny_typeOf_ref (k _ _ he) (by rw [hz.1]; exact q)
  have LM := PySem.W.exm_one (M := model X.prog X.w) dn.now.kIn LT hb
  refine cl_test hc dn (LM.here ?_)
  cases b with
  | false => exact r.run tk dn (hno rfl)
  | true =>
    refine codeAny_handlers_suite (HandSPX.lands_againZ dn.fl fun h4 fl4 up4 => ?_)
    have dn4 : Down X pins a B sI s h4 σ H cls d := ⟨dn.hs, dn.hf, dn.inv, dn.nb, dn.up.trans up4, fl4, dn.na, dn.os, dn.ag⟩
    obtain ⟨oe4, hz4, hd4, he4, S4⟩ := dn4.suite
    refine wpAny_mono ((hsu a oe4 cls d (X.pn ++ pins) hz4 hd4).run [] _ _ H _ S4 (hyes rfl a dn.na)) (fun f s6 hsp => ?_) (fun _ _ z => False.elim z)
    cases f with
    | next => exact hsp.elim fun _ z => z.elim fun _ z => ⟨_, _, z.1.unsuite dn.inv.ok, z.2⟩
    | brk => exact hsp.elim fun _ z => z.elim fun _ z => ⟨_, _, z.1.unsuite dn.inv.ok, z.2⟩
    | cont => exact hsp.elim fun _ z => z.elim fun _ z => ⟨_, _, z.1.unsuite dn.inv.ok, z.2⟩
    | ret u => exact hsp.elim fun _ z => z.elim fun _ z => z.elim fun _ z => ⟨_, _, _, z.1.unsuite dn.inv.ok, z.2⟩
theorem cl_as (hN : X.N.Nodup) (hi : X.N[i]? = some n) (hln : X.env.kindOf n = some .local) (hc : Names X x c)
    (hsu : ∀ (a : Addr) (oe : Obj) (cls : Value) (d : Option Addr) (pn : List (Addr × Obj)), Zc cls d oe → (∃ vs, oe.data = .fields vs) → PSs (X.suite a ((a, oe) :: pn)) (b₀ :: suite) (ts a cls d)) (r : ClOk X hds R) :
    ClOk X (.ExceptHandler (some (.Name x np)) (some n) (b₀ :: suite) pos' :: hds) (wClAs X.K c i ts R) := by
  refine ⟨?_⟩
  intro Wout tk pins a B sI s h σ H cls d D dn ⟨b, hb, hyes, hno⟩
  obtain ⟨oe, hz, hd, he, S⟩ := dn.suite
  refine wpAny_handleBy_cons (codeAny_handlers_test ?_) (by intro q; cases q)
  have LT : PySem.W.Looks (model X.prog X.w) h (typeOf (.ref a)) cls := fun A Q E s k q => wpAny_typeOf_ref (k _ _ he) (by rw [hz.1]; exact q)
  have LM := PySem.W.exm_one (M := model X.prog X.w) dn.now.kIn LT hb
  refine cl_test hc dn (LM.here ?_)
  cases b with
  | false => exact r.run tk dn (hno rfl)
  | true =>
    refine codeAny_handlers_suite_as (HandSPX.lands_againZ dn.fl fun h4 fl4 up4 => ?_)
    have dn4 : Down X pins a B sI s h4 σ H cls d := ⟨dn.hs, dn.hf, dn.inv, dn.nb, dn.up.trans up4, fl4, dn.na, dn.os, dn.ag⟩
    obtain ⟨oe4, hz4, hd4, he4, S4⟩ := dn4.suite
    refine store_ok (X := X.suite a ((a, oe4) :: (X.pn ++ pins))) (v := .ref a) S4 hN hi (.inl hln) rfl (fun s5 S5 => ?_) (.inr hln)
    refine wpAny_mono ((hsu a oe4 cls d (X.pn ++ pins) hz4 hd4).run [] s5 _ H _ S5 (hyes rfl a dn.na)) (fun f s6 hsp => ?_) (fun _ _ z => False.elim z)
    have gone : ∀ {σ6 : L2.St} {H6 : Hp} {Q : Shared → Prop}, Inv (X.suite a ((a, oe4) :: (X.pn ++ pins))) [] σ6 H6 s6 → (∀ s7, Inv X pins (σ6.set i none) H6 s7 → Q s7) →
        wpAny (model X.prog X.w) X.A (do bindName X.env n .none; unbindBehindTheSuite X.env n pos') (fun _ s7 => Q s7) X.xe s6 := fun {σ6 H6 Q} S6 hq => gone_ok (S6.unsuite dn.inv.ok) hN hi hln hq
    cases f with
    | next => exact hsp.elim fun _ z => z.elim fun _ z => gone z.1 fun s7 J7 => ⟨_, _, J7, z.2⟩
    | brk => exact hsp.elim fun _ z => z.elim fun _ z => gone z.1 fun s7 J7 => ⟨_, _, J7, z.2⟩
    | cont => exact hsp.elim fun _ z => z.elim fun _ z => gone z.1 fun s7 J7 => ⟨_, _, J7, z.2⟩
    | ret u => exact hsp.elim fun _ z => z.elim fun _ z => z.elim fun _ z => gone z.1 fun s7 J7 => ⟨_, _, _, J7, z.2⟩
end
theorem ps_try_cl {body : List Stmt} {h₀ : ExceptHandler} {hds : List ExceptHandler} {W : WL} {pos : Pos} {tb : WX → TS} {Wout : WX} (hs : X.stack = X.env :: X.outer) (hf : X.env.frame = some X.env.locals) (tk : Takes X Wout)
    (hb : ∀ (W : WX) (pn : List (Addr × Obj)) (xe : Value → Shared → Prop), Takes (X.tr pn xe) W → PassesOwn (model X.prog X.w) X.A X.env xe → PSs (X.tr pn xe) body (tb W)) (hh : ClOk X (h₀ :: hds) W) :
    PS X (.Try body (h₀ :: hds) [] [] pos) (fun D σ H => tb (W Wout D) D σ H) := by
  refine ⟨fun pins s σ H D I h => wpAny_Try_except ?_⟩
  have hfr : X.A.frames = some (X.env :: X.outer) := by rw [I.ok.frames, hs]
  refine wpAny_mono ((hb (W Wout D) (X.pn ++ pins) (fun e s₁ => wpAny (model X.prog X.w) X.A (noteFrame e X.env) (fun _ s₂ => wpAny (model X.prog X.w) X.A (setFlight e none) (fun _ s₃ =>
    wpAny (model X.prog X.w) X.A (handleBy e X.env (h₀ :: hds)) (SP X pins D) X.xe s₃) X.xe s₂) X.xe s₁) (fun u s' xx => ?_) PassesOwn.looking).run [] s σ H D (I.toTry _) h) (fun f s1 hsp => ?_) (fun e s1 he => he)
  · obtain ⟨a, B, sI, pins', σ', H', cls, d, rfl, J', nb, up, sky, na, os, ag, w⟩ := xx
    refine Sky.land Zc.steady hfr hf (by rw [← hs]; exact sky) fun h3 fl3 up3 => ?_
    exact hh.run tk ⟨hs, hf, J'.ofTry I.ok, nb, up.trans up3, fl3, na, os, ag⟩ w
  · cases f with
    | next => exact hsp.elim fun _ z => z.elim fun _ z => wpAny_execs_nil ⟨_, _, z.1.ofTry I.ok, z.2⟩
    | brk => exact hsp.elim fun _ z => z.elim fun _ z => ⟨_, _, z.1.ofTry I.ok, z.2⟩
    | cont => exact hsp.elim fun _ z => z.elim fun _ z => ⟨_, _, z.1.ofTry I.ok, z.2⟩
    | ret u => exact hsp.elim fun _ z => z.elim fun _ z => z.elim fun _ z => ⟨_, _, _, z.1.ofTry I.ok, z.2⟩
end
end Aw

namespace Aw
open PySem L2 PyProof.Rows
/-! ### methods asked within a try -/
def tMX (C : Addr) (m : Str) (sp : Sp) (W : L2.St → XK) (to : TE) (ta : L2.TA) : TE := fun σ H Q => to σ H fun o G => ∃ p dx fs, o = .ref p ∧ G p = some (.ins C dx fs) ∧ fs.lookup m = none ∧ ta σ G fun ws G' => sp (o :: ws) G' Q (W σ)
section
variable {X : Cx} {CX : CXT} {k : Nat} {f C : Addr} {fd : FuncData} {ps : List Str} {sp : Sp} {W : L2.St → XK} {m : Str} {pos apos : Pos} {o : Expr} {to : TE} {pl : Sem Bool}
theorem pe_mX {e : Expr} {es : List Expr} {ta : L2.TA} (ho : PE X o to) (c : Cls X.K C) (hm : Meth X.K C m f) (F : FnOk X.prog X.w X.K X.mg X.base CX k f fd ps sp) (hr : Room k X.A) (hb : Binds X.K fd ps []) (hx : ∀ σ, PassesAt CX X σ (W σ)) (ha : PA X (e :: es) ta)
    (h1 : starEach (e :: es) X.env = (false, eval e X.env) :: starEach es X.env := by rfl) (h2 : (backTo pos (starEach es X.env)).any (·.1) = false := by rfl)
    (h3 : eval (.Call (.Attribute o m apos) (e :: es) [] pos) X.env = (do
      let ov ← eval o X.env
      standAt apos.atName
      let (f, first) ← holding [ov] (getMethod ov m pl)
      callWith pos f first (backTo pos (starEach (e :: es) X.env)) (backToKw pos (keywordEach [] X.env))) := by rfl) : PE X (.Call (.Attribute o m apos) (e :: es) [] pos) (tMX C m sp W to ta) :=
  ⟨fun pins s σ H Q I h => PySem.W.methodCall_KW (pl := pl) (thn (ho.run pins s σ H _ I h) fun u s1 ⟨x, G, J, rx, p, dx, fs, ex, ep, l, q⟩ => by
    subst ex
    obtain rfl : u = Value.ref p := rx
    exact getmeth_ok J ep c hm l (PySem.W.callWith_K (first := [.ref p]) (h₀ := X.base) J.ok.mod.kin hm.kp (thn (ha.run pos pins s1 σ G _ J q) fun us s2 ⟨vs, G', J', r, q'⟩ => ⟨J'.kIn, run_fnS (us := .ref p :: us) (vs := .ref p :: vs) F hr hb (hx σ) J' (.cons rfl r) q'⟩) h1 h2)) h3⟩
theorem pe_mX0 (ho : PE X o to) (c : Cls X.K C) (hm : Meth X.K C m f) (F : FnOk X.prog X.w X.K X.mg X.base CX k f fd ps sp) (hr : Room k X.A) (hb : Binds X.K fd ps []) (hx : ∀ σ, PassesAt CX X σ (W σ))
    (h3 : eval (.Call (.Attribute o m apos) [] [] pos) X.env = (do
      let ov ← eval o X.env
      standAt apos.atName
      let (f, first) ← holding [ov] (getMethod ov m pl)
      callWith pos f first (backTo pos (starEach [] X.env)) (backToKw pos (keywordEach [] X.env))) := by rfl) : PE X (.Call (.Attribute o m apos) [] [] pos) (tMX C m sp W to tNil) :=
  ⟨fun pins s σ H Q I h => PySem.W.methodCall_KW (pl := pl) (thn (ho.run pins s σ H _ I h) fun u s1 ⟨x, G, J, rx, p, dx, fs, ex, ep, l, q⟩ => by
    subst ex
    obtain rfl : u = Value.ref p := rx
    exact getmeth_ok J ep c hm l (PySem.W.callWith_K0 (first := [.ref p]) J.kIn hm.kp (run_fnS (us := [.ref p]) (vs := [.ref p]) F hr hb (hx σ) J (.cons rfl .nil) q))) h3⟩
end
/-- a suite that rests on a fact which its reading tells -/
theorem pss_when {X : Cx} {ss : List Stmt} {t : TS} {P : Prop} (h : P → PSs X ss t) : PSs X ss (fun D σ H => P ∧ t D σ H) := ⟨fun pins s σ H D I hh => (h hh.1).run pins s σ H D I hh.2⟩
theorem pss_exc {X : Cx} {a : Addr} {oe : Obj} {pn : List (Addr × Obj)} {ss : List Stmt} {N : Addr} {t : TS} {cls : Value} {d : Option Addr} (hz : Zc cls d oe) (h : Zc (.ref N) none oe → PSs (X.suite a ((a, oe) :: pn)) ss t) : PSs (X.suite a ((a, oe) :: pn)) ss (fun D σ H => (cls = .ref N ∧ d = none) ∧ t D σ H) :=
  pss_when fun ⟨e1, e2⟩ => by subst e1; subst e2; exact h hz
/-- what an except clause wants of a class -/
structure ExT (K : PySem.W.Frag) (mg : Str → Option Value) (nm : Str) (N : Addr) : Prop where
  g : mg nm = some (.ref N)
  e : PySem.W.exmOne K (.ref N) (.ref N) = some true
  c : ExcC K N
theorem kitc_ref {K : PySem.W.Frag} {t : Value} {S : Addr} {b : Bool} (h2 : PySem.W.isClsIn K S = true) (h3 : PySem.W.typeIn K (.ref S) = some (.type "type")) (h4 : PySem.W.subIn K t (.ref S) = some b) : PySem.W.kitCls K t (.ref S) = some b := by
  have h2' : (PySem.W.clsIn K S).isSome = true := h2
  have e2 : ((PySem.W.clsIn K S).isSome && PySem.W.typeIn K (.ref S) == some (.type "type")) = true := by
    rw [h2', h3] <;> rfl
  unfold PySem.W.kitCls
  dsimp only
  rw [if_pos e2]
  exact h4
theorem kit1 {K : PySem.W.Frag} {t c : Value} {b : Bool} (n : (t == c) = false) (h : PySem.W.kitCls K t c = some b) : PySem.W.kitOne K t c = some b := by
  unfold PySem.W.kitOne
  rw [n]
  exact h
theorem kit_cls {K : PySem.W.Frag} {N S : Addr} {b : Bool} (n : (Value.ref N == Value.ref S) = false) (h2 : PySem.W.isClsIn K S = true) (h3 : PySem.W.typeIn K (.ref S) = some (.type "type")) (h4 : PySem.W.subIn K (.ref N) (.ref S) = some b) : PySem.W.kitOne K (.ref N) (.ref S) = some b := kit1 n (kitc_ref h2 h3 h4)
theorem kit_typ {K : PySem.W.Frag} {N : Addr} {T : String} {b : Bool} (m : PySem.W.kitMeta T = true) (h4 : PySem.W.subIn K (.ref N) (.type T) = some b) : PySem.W.kitOne K (.ref N) (.type T) = some b := kit1 rfl (by
  unfold PySem.W.kitCls
  dsimp only
  rw [if_pos m]
  exact h4)
theorem exm_self' {K : PySem.W.Frag} {S : Addr} (h1 : PySem.W.subIn K (.ref S) (.type "BaseException") = some true) (h2 : PySem.W.isClsIn K S = true) (h3 : PySem.W.typeIn K (.ref S) = some (.type "type")) (h4 : PySem.W.subIn K (.ref S) (.ref S) = some true) : PySem.W.exmOne K (.ref S) (.ref S) = some true := by
  have e1 : (PySem.W.subIn K (.ref S) (.type "BaseException") == some true) = true := by rw [h1] <;> rfl
  unfold PySem.W.exmOne
  rw [if_pos e1]
  exact kitc_ref h2 h3 h4
theorem exm_sub {K : PySem.W.Frag} {N S : Addr} {b : Bool} (h1 : PySem.W.subIn K (.ref S) (.type "BaseException") = some true) (h2 : PySem.W.isClsIn K S = true) (h3 : PySem.W.typeIn K (.ref S) = some (.type "type")) (h4 : PySem.W.subIn K (.ref N) (.ref S) = some b) : PySem.W.exmOne K (.ref N) (.ref S) = some b := by
  have e1 : (PySem.W.subIn K (.ref S) (.type "BaseException") == some true) = true := by rw [h1] <;> rfl
  unfold PySem.W.exmOne
  rw [if_pos e1]
  exact kitc_ref h2 h3 h4
end Aw

namespace Aw
open PySem L2
def top (i : Nat) : Stmt := PySem.Challenge.pw_anewhall_k36_recipes_spoilt_anywhere.main.body.getD i (.Pass ⟨0, 0, 0, 0⟩)
abbrev s_number_piece : Stmt := top 12
/- slots 0:number -/
theorem sc_number_piece : FnScope ["number"] ["number"] (defScope s_number_piece) := ⟨rfl, rfl, rfl, by decide +kernel, rfl, by decide +kernel, by decide +kernel⟩
abbrev s_name_piece : Stmt := top 13
/- slots 0:name -/
theorem sc_name_piece : FnScope ["name"] ["name"] (defScope s_name_piece) := ⟨rfl, rfl, rfl, by decide +kernel, rfl, by decide +kernel, by decide +kernel⟩
abbrev s_gate_piece : Stmt := top 14
/- slots 0:name 1:bound 2:piece -/
theorem sc_gate_piece : FnScope ["name", "bound", "piece"] ["name", "bound", "piece"] (defScope s_gate_piece) := ⟨rfl, rfl, rfl, by decide +kernel, rfl, by decide +kernel, by decide +kernel⟩
abbrev s_joined_piece : Stmt := top 15
/- slots 0:kind 1:pieces -/
theorem sc_joined_piece : FnScope ["kind", "pieces"] ["kind", "pieces"] (defScope s_joined_piece) := ⟨rfl, rfl, rfl, by decide +kernel, rfl, by decide +kernel, by decide +kernel⟩
abbrev s_shown : Stmt := top 16
/- slots 0:recipe 1:kind 2:_ 3:name 4:bound 5:piece 6:parts 7:sign; cells kind -/
theorem sc_shown : FnScope ["recipe", "kind", "_", "name", "bound", "piece", "parts", "sign"] ["recipe"] (defScope s_shown) := ⟨rfl, rfl, rfl, by decide +kernel, rfl, by decide +kernel, by decide +kernel⟩
abbrev s_shown_within : Stmt := top 17
/- slots 0:kind 1:piece 2:text -/
theorem sc_shown_within : FnScope ["kind", "piece", "text"] ["kind", "piece"] (defScope s_shown_within) := ⟨rfl, rfl, rfl, by decide +kernel, rfl, by decide +kernel, by decide +kernel⟩
abbrev s_Words_init : Stmt := inClass (top 28) 0
/- slots 0:self 1:words -/
theorem sc_Words_init : FnScope ["self", "words"] ["self", "words"] (defScope s_Words_init) := ⟨rfl, rfl, rfl, by decide +kernel, rfl, by decide +kernel, by decide +kernel⟩
abbrev s_Words_ahead : Stmt := inClass (top 28) 1
/- slots 0:self -/
theorem sc_Words_ahead : FnScope ["self"] ["self"] (defScope s_Words_ahead) := ⟨rfl, rfl, rfl, by decide +kernel, rfl, by decide +kernel, by decide +kernel⟩
abbrev s_Words_taken : Stmt := inClass (top 28) 2
/- slots 0:self 1:word -/
theorem sc_Words_taken : FnScope ["self", "word"] ["self"] (defScope s_Words_taken) := ⟨rfl, rfl, rfl, by decide +kernel, rfl, by decide +kernel, by decide +kernel⟩
abbrev s_Words_expect : Stmt := inClass (top 28) 3
/- slots 0:self 1:word -/
theorem sc_Words_expect : FnScope ["self", "word"] ["self", "word"] (defScope s_Words_expect) := ⟨rfl, rfl, rfl, by decide +kernel, rfl, by decide +kernel, by decide +kernel⟩
abbrev s_read : Stmt := top 29
/- slots 0:text 1:words 2:reader 3:recipe -/
theorem sc_read : FnScope ["text", "words", "reader", "recipe"] ["text"] (defScope s_read) := ⟨rfl, rfl, rfl, by decide +kernel, rfl, by decide +kernel, by decide +kernel⟩
abbrev s_words_of : Stmt := top 30
/- slots 0:text 1:words 2:before 3:sign 4:kind -/
theorem sc_words_of : FnScope ["text", "words", "before", "sign", "kind"] ["text"] (defScope s_words_of) := ⟨rfl, rfl, rfl, by decide +kernel, rfl, by decide +kernel, by decide +kernel⟩
abbrev s_kind_of : Stmt := top 31
/- slots 0:sign -/
theorem sc_kind_of : FnScope ["sign"] ["sign"] (defScope s_kind_of) := ⟨rfl, rfl, rfl, by decide +kernel, rfl, by decide +kernel, by decide +kernel⟩
abbrev s_read_level : Stmt := top 32
/- slots 0:reader 1:level 2:deep 3:kind 4:pieces -/
theorem sc_read_level : FnScope ["reader", "level", "deep", "kind", "pieces"] ["reader", "level", "deep"] (defScope s_read_level) := ⟨rfl, rfl, rfl, by decide +kernel, rfl, by decide +kernel, by decide +kernel⟩
abbrev s_read_piece : Stmt := top 33
/- slots 0:reader 1:deep 2:word 3:piece -/
theorem sc_read_piece : FnScope ["reader", "deep", "word", "piece"] ["reader", "deep"] (defScope s_read_piece) := ⟨rfl, rfl, rfl, by decide +kernel, rfl, by decide +kernel, by decide +kernel⟩
abbrev s_read_gate : Stmt := top 34
/- slots 0:reader 1:deep 2:name 3:bound -/
theorem sc_read_gate : FnScope ["reader", "deep", "name", "bound"] ["reader", "deep"] (defScope s_read_gate) := ⟨rfl, rfl, rfl, by decide +kernel, rfl, by decide +kernel, by decide +kernel⟩
abbrev s_is_name : Stmt := top 35
/- slots 0:text 1:sign -/
theorem sc_is_name : FnScope ["text", "sign"] ["text"] (defScope s_is_name) := ⟨rfl, rfl, rfl, by decide +kernel, rfl, by decide +kernel, by decide +kernel⟩
abbrev s_number_of : Stmt := top 36
/- slots 0:word 1:lowest 2:number -/
theorem sc_number_of : FnScope ["word", "lowest", "number"] ["word", "lowest"] (defScope s_number_of) := ⟨rfl, rfl, rfl, by decide +kernel, rfl, by decide +kernel, by decide +kernel⟩
abbrev s_law_cell_at : Stmt := top 38
/- slots 0:_law_script 1:_law_k -/
theorem sc_law_cell_at : FnScope ["_law_script", "_law_k"] ["_law_script", "_law_k"] (defScope s_law_cell_at) := ⟨rfl, rfl, rfl, by decide +kernel, rfl, by decide +kernel, by decide +kernel⟩
abbrev s_law_dice : Stmt := top 39
/- slots 0:_law_cell -/
theorem sc_law_dice : FnScope ["_law_cell"] ["_law_cell"] (defScope s_law_dice) := ⟨rfl, rfl, rfl, by decide +kernel, rfl, by decide +kernel, by decide +kernel⟩
abbrev s_law_roll : Stmt := top 40
/- slots 0:_law_dice_here 1:_law_most 2:_law_found -/
theorem sc_law_roll : FnScope ["_law_dice_here", "_law_most", "_law_found"] ["_law_dice_here", "_law_most"] (defScope s_law_roll) := ⟨rfl, rfl, rfl, by decide +kernel, rfl, by decide +kernel, by decide +kernel⟩
abbrev s_law_names : Stmt := top 41
/- slots 0:_law_cell 1:_law_many 2:_law_letters 3:_law_size 4:_law_at 5:_law_out 6:_law_k 7:_law_name 8:_law_place 9:_law_step -/
theorem sc_law_names : FnScope ["_law_cell", "_law_many", "_law_letters", "_law_size", "_law_at", "_law_out", "_law_k", "_law_name", "_law_place", "_law_step"] ["_law_cell", "_law_many"] (defScope s_law_names) := ⟨rfl, rfl, rfl, by decide +kernel, rfl, by decide +kernel, by decide +kernel⟩
abbrev s_law_tree : Stmt := top 42
/- slots 0:_law_dice_here 1:_law_names_here 2:_law_deep 3:_law_way 4:_law_name 5:_law_kind 6:_law_many 7:_law_k; cells _law_dice_here _law_names_here _law_deep -/
theorem sc_law_tree : FnScope ["_law_dice_here", "_law_names_here", "_law_deep", "_law_way", "_law_name", "_law_kind", "_law_many", "_law_k"] ["_law_dice_here", "_law_names_here", "_law_deep"] (defScope s_law_tree) := ⟨rfl, rfl, rfl, by decide +kernel, rfl, by decide +kernel, by decide +kernel⟩
abbrev s_law_written : Stmt := top 43
/- slots 0:_law_tree_here 1:_law_firm 2:_law_rank 3:_law_sign 4:_law_out 5:_law_piece -/
theorem sc_law_written : FnScope ["_law_tree_here", "_law_firm", "_law_rank", "_law_sign", "_law_out", "_law_piece"] ["_law_tree_here", "_law_firm"] (defScope s_law_written) := ⟨rfl, rfl, rfl, by decide +kernel, rfl, by decide +kernel, by decide +kernel⟩
abbrev s_law_is_name : Stmt := top 44
/- slots 0:_law_word 1:_law_letters 2:_law_sign; cells _law_letters -/
theorem sc_law_is_name : FnScope ["_law_word", "_law_letters", "_law_sign"] ["_law_word"] (defScope s_law_is_name) := ⟨rfl, rfl, rfl, by decide +kernel, rfl, by decide +kernel, by decide +kernel⟩
abbrev s_law_number : Stmt := top 45
/- slots 0:_law_word 1:_law_number_here -/
theorem sc_law_number : FnScope ["_law_word", "_law_number_here"] ["_law_word"] (defScope s_law_number) := ⟨rfl, rfl, rfl, by decide +kernel, rfl, by decide +kernel, by decide +kernel⟩
abbrev s_law_single : Stmt := top 46
/- slots 0:_law_words 1:_law_at 2:_law_deep 3:_law_word 4:_law_found 5:_law_inner 6:_law_bound -/
theorem sc_law_single : FnScope ["_law_words", "_law_at", "_law_deep", "_law_word", "_law_found", "_law_inner", "_law_bound"] ["_law_words", "_law_at", "_law_deep"] (defScope s_law_single) := ⟨rfl, rfl, rfl, by decide +kernel, rfl, by decide +kernel, by decide +kernel⟩
abbrev s_law_chain : Stmt := top 47
/- slots 0:_law_words 1:_law_at 2:_law_deep 3:_law_rank 4:_law_found 5:_law_pieces -/
theorem sc_law_chain : FnScope ["_law_words", "_law_at", "_law_deep", "_law_rank", "_law_found", "_law_pieces"] ["_law_words", "_law_at", "_law_deep", "_law_rank"] (defScope s_law_chain) := ⟨rfl, rfl, rfl, by decide +kernel, rfl, by decide +kernel, by decide +kernel⟩
abbrev s_law_refused : Stmt := top 48
/- slots 0:_law_text 1:e 2:_law_beside -/
theorem sc_law_refused : FnScope ["_law_text", "e", "_law_beside"] ["_law_text"] (defScope s_law_refused) := ⟨rfl, rfl, rfl, by decide +kernel, rfl, by decide +kernel, by decide +kernel⟩
abbrev s_law_parted : Stmt := top 49
/- slots 0:_law_text 1:_law_out 2:_law_kind 3:_law_sign 4:_law_now -/
theorem sc_law_parted : FnScope ["_law_text", "_law_out", "_law_kind", "_law_sign", "_law_now"] ["_law_text"] (defScope s_law_parted) := ⟨rfl, rfl, rfl, by decide +kernel, rfl, by decide +kernel, by decide +kernel⟩
abbrev s_law_bent : Stmt := top 50
/- slots 0:_law_dice_here 1:_law_text 2:_law_signs 3:_law_at 4:_law_sign 5:_law_some -/
theorem sc_law_bent : FnScope ["_law_dice_here", "_law_text", "_law_signs", "_law_at", "_law_sign", "_law_some"] ["_law_dice_here", "_law_text"] (defScope s_law_bent) := ⟨rfl, rfl, rfl, by decide +kernel, rfl, by decide +kernel, by decide +kernel⟩
abbrev s_law : Stmt := top 51
/- slots 0:_law_script 1:_law_names_here 2:_law_turn 3:_law_dice_here 4:_law_text 5:_law_change 6:_law_words 7:_law_found -/
theorem sc_law : FnScope ["_law_script", "_law_names_here", "_law_turn", "_law_dice_here", "_law_text", "_law_change", "_law_words", "_law_found"] ["_law_script"] (defScope s_law) := ⟨rfl, rfl, rfl, by decide +kernel, rfl, by decide +kernel, by decide +kernel⟩
end Aw

namespace Aw
open PySem L2
/-- what the top has written that the reading asks: its class, its error, its constants, the built-ins that it calls -/
structure Txt (K : PySem.W.Frag) (mg : Str → Option Value) (C N : Addr) : Prop where
  cl : Cls K C
  nW : NoAttr K C "words"
  nA : NoAttr K C "at"
  mgC : mg "Words" = some (.ref C)
  xN : PySem.W.excIn K N [.type "ValueError", .type "Exception", .type "BaseException", .type "object"] "ValueError.__new__" = true
  gN : mg "NoRecipe" = some (.ref N)
  kN : PySem.W.keepIn K (.ref N) = true
  bN : PySem.W.subIn K (.ref N) (.type "BaseException") = some true
  tN : PySem.W.typeIn K (.ref N) = some (.type "type")
  len : mg "len" = none
  range : mg "range" = none
  str : mg "str" = none
  all : mg "all" = none
  tup : mg "tuple" = none
  gGr : ∃ t, mg "GREATEST" = some (.int 30 t)
  gLet : ∃ t, mg "LETTERS" = some (.str "abcdefghijklmnopqrstuvwxyz" t)
  gFig : ∃ t, mg "FIGURES" = some (.str "0123456789" t)
  gOth : ∃ t, mg "OTHER_WORDS" = some (.str "+&|()[]" t)
  gLN : ∃ t, mg "LONGEST_NAME" = some (.int 6 t)
  gMP : ∃ t, mg "MOST_PIECES" = some (.int 8 t)
  gMW : ∃ t, mg "MOST_WORDS" = some (.int 40 t)
  gMS : ∃ t, mg "MOST_SIGNS" = some (.int 400 t)
  gDe : ∃ t, mg "DEEPEST" = some (.int 2 t)
section
variable {P : Program} {w : World} {K : PySem.W.Frag} {mg : Str → Option Value} {base : Heap} {C N : Addr} {f : Addr} {fd : FuncData}
theorem ok_Winit (F : Fun K "__init__" "Words.__init__" s_Words_init f fd) (T : Txt K mg C N) : FnOk P w K mg base CX0 1 f fd ["self", "words"] (spInit C) := by
  refine F.ok sc_Words_init (fun vs H Q E h => ?_) (fun cdv A outer s H vs Q E hr h => ?_)
  · obtain ⟨p, dx, l, rfl, _⟩ := h
    rfl
  obtain ⟨p, dx, l, rfl, hp, k⟩ := h
  refine ⟨_, pss_cons (ps_fld (pv 0) (pv 1) rfl) (pss_one (ps_fld (pv 0) pe_int rfl)), ?_⟩
  refine ⟨_, rfl, _, rfl, p, C, dx, [], rfl, hp, T.cl, T.nW, (by show 0 < 1000; decide), _, rfl, p, C, dx, _, rfl, upd_same, T.cl, T.nA, (by show 1 < 1000; decide), ?_⟩
  refine k _ upd_same fun b o e hb => ?_
  rw [upd_ne hb, upd_ne hb]
  exact e
theorem ok_ahead (F : Fun K "ahead" "Words.ahead" s_Words_ahead f fd) (T : Txt K mg C N) : FnOk P w K mg base CX0 1 f fd ["self"] (spAhead C) := by
  refine F.ok sc_Words_ahead (fun vs H Q E h => ?_) (fun cdv A outer s H vs Q E hr h => ?_)
  · obtain ⟨p, l, ws, i, rfl, _⟩ := h
    rfl
  obtain ⟨p, l, ws, i, rfl, R, k⟩ := h
  obtain ⟨dx, hp⟩ := R.ob
  refine ⟨_, pss_cons (ps_if (pt_cmpR op_lt (pe_fld (pv 0) rfl) (pe_callB call_len_seq (by rfl) T.len PySem.boot_len (pa_cons (pe_fld (pv 0) rfl) pa_nil)) (nomark _))
      (pss_one (ps_ret (pe_ix ix_list (pe_fld (pv 0) rfl) (pe_fld (pv 0) rfl) (fun _ _ => rfl)))) pss_nil)
    (pss_one (ps_ret pe_str)), ?_⟩
  refine ⟨_, rfl, p, C, dx, _, _, rfl, hp, T.cl, T.nA, rflds_at _ _, _, rfl, p, C, dx, _, _, rfl, hp, T.cl, T.nW, rflds_words _ _, l, _, rfl, .inl (SqL.of R.ls), _, _, rfl, rfl, _, rfl, ?_⟩
  refine ite2 (fun c => ?_) (fun c => ?_)
  · have c' : (i : Int) < (((ws.map V.str).length : Nat) : Int) := of_decide_eq_true c
    rw [List.length_map] at c'
    have hi : i < ws.length := by omega
    refine ⟨_, rfl, p, C, dx, _, _, rfl, hp, T.cl, T.nW, rflds_words _ _, _, rfl, p, C, dx, _, _, rfl, hp, T.cl, T.nA, rflds_at _ _, l, _, _, .str (wd ws i), rfl, rfl, SqL.of R.ls, ?_, k⟩
    exact atI_nat (by rw [List.getElem?_map, wd_get hi] <;> rfl)
  · have c' : ¬ (i : Int) < (((ws.map V.str).length : Nat) : Int) := of_decide_eq_false (Bool.eq_false_iff.mpr c)
    rw [List.length_map] at c'
    have e := wd_end (ws := ws) (i := i) (by omega)
    rw [e] at k
    exact k
theorem ok_taken {g : Addr} {gd : FuncData} (F : Fun K "taken" "Words.taken" s_Words_taken f fd) (T : Txt K mg C N) (FA : Fun K "ahead" "Words.ahead" s_Words_ahead g gd) (bA : Binds K gd ["self"] []) (mA : Meth K C "ahead" g) : FnOk P w K mg base CX0 2 f fd ["self"] (spTaken C) := by
  have GA : FnOk P w K mg base CX0 1 g gd ["self"] (spAhead C) := ok_ahead FA T
  refine F.ok sc_Words_taken (fun vs H Q E h => ?_) (fun cdv A outer s H vs Q E hr h => ?_)
  · obtain ⟨p, l, ws, i, rfl, _⟩ := h
    rfl
  obtain ⟨p, l, ws, i, rfl, R, k⟩ := h
  obtain ⟨dx, hp⟩ := R.ob
  refine ⟨_, pss_cons (ps_set (i := 1) sc_Words_taken.nd rfl (Or.inl rfl) (pe_meth0 (pv 0) T.cl mA GA hr bA .nil pass0))
    (pss_cons (ps_fldaug (pv 0) pe_int in_add)
    (pss_one (ps_ret (pv 1)))), ?_⟩
  refine ⟨_, rfl, p, dx, _, rfl, hp, rflds_no _ _ (by decide +kernel) (by decide +kernel), p, l, ws, i, rfl, R, ?_⟩
  refine ⟨_, rfl, p, C, dx, _, _, rfl, hp, T.cl, T.nA, rflds_at _ _, _, _, rfl, rfl, dx, _, hp, (by rw [rflds_eq]; show 2 < 1000; decide), ?_⟩
  refine ⟨_, rfl, ?_⟩
  have npl : l ≠ p := ne_of R.ls hp (by intro z; cases z)
  refine k _ (But.upd _) ⟨⟨dx, ?_⟩, (by rw [upd_ne npl]; exact R.ls), R.ln⟩
  rw [upd_same, rflds_put l i (by omega)]
end
end Aw

namespace Aw
open PySem L2
section
variable {X : Cx}
/-- xs[i] read for xs[i] op= e -/
theorem get_list : PGet X (rIxL X.K) := by
  intro pins s σ H x y v u Q I rx ry h
  obtain ⟨p, xs, i, z, rfl, rfl, hq, he, q⟩ := h
  cases rx
  obtain ⟨t, rfl⟩ := ry
  obtain ⟨its, r, pl, hz⟩ := I.list hq
  obtain ⟨j, h1, h2, h3, h4, h5⟩ := atI_get he
  obtain ⟨w, ew, rw'⟩ := r.get h2
  have hl := r.length
  have hn := line63
  have fin : EP X pins σ Q w s := ⟨z, H, I, rw', q⟩
  by_cases h0 : 0 ≤ i
  · have hj : i.toNat = j := by
      rw [seqIndex_of h0 h5] at h1
      exact Option.some.inj h1
    exact PySem.wpAny_getItem_list (Q := fun r s' => EP X pins σ Q r s') pl.isList h0 (by omega) (by rw [hj]; simpa using ew) fin
  · have hj : (i + (its.toArray.size : Int)).toNat = j := by
      rw [seqIndex_neg (by omega) h4] at h1
      rw [List.size_toArray, ← hl]
      exact Option.some.inj h1
    exact PySem.wpAny_getItem_list_neg (Q := fun r s' => EP X pins σ Q r s') pl.isList (by omega) (by rw [List.size_toArray] <;> omega) (by omega) (by rw [hj]; simpa using ew) fin
end
section
variable {X : Cx} {x : Str} {pos : Pos}
theorem pe_gI {n : Int} (hm : ∃ t, X.mg x = some (.int n t)) (hg : Gl X x := by rfl) (hd : (x == ("__debug__" : Str)) = false := by decide) : PE X (.Name x pos) (tC (.int n)) := by
  obtain ⟨t, hm⟩ := hm
  exact pe_glob hg hm ⟨_, rfl⟩ hd
theorem pe_gS {z : Str} (hm : ∃ t, X.mg x = some (.str z t)) (hg : Gl X x := by rfl) (hd : (x == ("__debug__" : Str)) = false := by decide) : PE X (.Name x pos) (tC (.str z)) := by
  obtain ⟨t, hm⟩ := hm
  exact pe_glob hg hm ⟨_, rfl⟩ hd
end
theorem find_none {p : Nat → Bool} {n : Nat} (h : ∀ i, i < n → p i = false) : (List.range n).find? p = none := by
  rw [List.find?_eq_none]
  intro x hx
  rw [h x (List.mem_range.mp hx)]
  exact Bool.false_ne_true
theorem find_at {p : Nat → Bool} {n i : Nat} (hi : i < n) (h : ∀ j, j < i → p j = false) (hp : p i = true) : (List.range n).find? p = some i := by
  rw [List.find?_eq_some_iff_getElem]
  refine ⟨hp, i, by simpa using hi, by simp, fun j hj => ?_⟩
  have e := h j hj
  simp [e]
theorem small_tx {i : Int} (h0 : 0 ≤ i) (h1 : i ≤ 1000) : i.natAbs.log2 < 1920 := by
  have e : i.natAbs ≤ 1000 := by omega
  rcases Nat.eq_zero_or_pos i.natAbs with q | q
  · rw [q]; decide
  · have := (Nat.log2_lt (by omega : i.natAbs ≠ 0) (k := 1920)).mpr (Nat.lt_of_le_of_lt e (by decide +kernel))
    exact this
theorem len_sg1 (c : Nat) : (sg1 c).length = 1 := rfl
theorem len_app (a b : Str) : (a ++ b).length = a.length + b.length := by
  show (a.cps ++ b.cps).size = _
  rw [Array.size_append] <;> rfl
theorem big {n : Nat} (h : n ≤ 100000) : n ≤ sizeLine := Nat.le_trans h (by decide)
section
variable {P : Program} {w : World} {K : PySem.W.Frag} {mg : Str → Option Value} {base : Heap} {C N : Addr} {f : Addr} {fd : FuncData}
theorem ok_expect {g : Addr} {gd : FuncData} (F : Fun K "expect" "Words.expect" s_Words_expect f fd) (T : Txt K mg C N) (GT : FnOk P w K mg base CX0 2 g gd ["self"] (spTaken C)) (bA : Binds K gd ["self"] []) (mA : Meth K C "taken" g) : FnOk P w K mg base (L2.CX P w) 3 f fd ["self", "word"] (spExpect C N) := by
  refine F.okX sc_Words_expect (fun vs H Q E h => ?_) (fun cdv A outer s H vs Q E hr h => ?_)
  · obtain ⟨p, l, ws, i, z, rfl, _⟩ := h
    rfl
  obtain ⟨p, l, ws, i, z, rfl, R, hz, hw, k1, k2⟩ := h
  obtain ⟨dx, hp⟩ := R.ob
  refine ⟨_, pss_one (ps_if (pt_cmpR op_ne (pe_meth0 (pv 0) T.cl mA GT hr bA .nil pass0) (pv 1) (nomark _))
      (pss_one (ps_raise (W := fun cls d _ H => E cls d H) rfl (takes_of rfl rfl rfl rfl) (SkE.pmk_own1 PySem.F.excBase_ValueError T.xN T.gN T.kN (raises_own T.bN T.tN) rfl (pe_joined (.cons pe_str (.cons (pe_fmt (pv 1)) (.cons pe_str .nil))))))) pss_nil), ?_⟩
  refine ⟨_, rfl, p, dx, _, rfl, hp, rflds_no _ _ (by decide +kernel) (by decide +kernel), p, l, ws, i, rfl, R, fun H' hb R' => ?_⟩
  refine ⟨_, rfl, rfl, _, rfl, ?_⟩
  by_cases e : wd ws i = z
  · rw [show decide (V.str (wd ws i) = V.str z) = true from decide_eq_true (by rw [e])]
    exact iteF (k1 e H' hb R')
  · rw [show decide (V.str (wd ws i) = V.str z) = false from decide_eq_false (by intro q; cases q; exact e rfl)]
    refine iteT ?_
    refine ⟨_, rfl, ?_, _, rfl, .inl ⟨z, rfl, big (by omega), z, rfl, ?_, _, rfl, ?_, k2 e H' hb⟩⟩
    · rw [len_app]; exact big (by show 0 + 18 ≤ _; decide)
    · rw [len_app, len_app]; exact big (by show 0 + 18 + z.length ≤ _; omega)
    · rw [len_app, len_app, len_app]; exact big (by show 0 + 18 + z.length + 20 ≤ _; omega)
theorem ok_number (F : Fun K "number_of" "number_of" s_number_of f fd) (T : Txt K mg C N) : FnOk P w K mg base (L2.CX P w) 1 f fd ["word", "lowest"] (spNum N) := by
  refine F.okX sc_number_of (fun vs H Q E h => ?_) (fun cdv A outer s H vs Q E hr h => ?_)
  · obtain ⟨z, lo, rfl, _⟩ := h
    rfl
  obtain ⟨z, lo, rfl, h0, h30, k1, k2⟩ := h
  refine ⟨_, pss_cons (ps_for (passes_of rfl) rfl (pi_range2 (by rfl) T.range (pa_cons (pv 1) (pa_cons (pe_op op_add (pe_gI T.gGr) pe_int) pa_nil))) (pg_name (i := 2) sc_number_of.nd rfl (Or.inl rfl))
      (pss_one (ps_if (pt_cmpR op_eq (pv 0) (pe_callTy call_str_int (by rfl) T.str (by decide +kernel) (pa_cons (pv 2) pa_nil)) (nomark _)) (pss_one (ps_ret (pv 2))) pss_nil)))
    (pss_one (ps_raise (W := fun cls d _ H => E cls d H) rfl (takes_of rfl rfl rfl rfl) (pmk_own PySem.F.excBase_ValueError T.xN T.gN T.kN (raises_own T.bN T.tN) rfl))), ?_⟩
  refine ⟨_, rfl, _, _, rfl, rfl, lo, 31, rfl, ⟨by omega, by omega, by omega, by omega⟩, ?_⟩
  refine for_range (lo := lo) (n := (31 - lo).toNat) (fun i σ H' => H' = H ∧ (∃ v : Option V, σ = [some (.str z), some (.int lo), v]) ∧ ∀ j : Nat, j < i → z ≠ tx (lo + (j : Nat))) ⟨rfl, ⟨none, rfl⟩, fun j hj => by omega⟩ ?_ ?_
  · rintro i σ H' hi ⟨rfl, ⟨v, rfl⟩, hn⟩
    refine ⟨_, rfl, _, rfl, _, rfl, small_tx (by omega) (by omega), rfl, _, rfl, ?_⟩
    by_cases e : z = tx (lo + (i : Nat))
    · rw [show decide (V.str z = V.str (toString (lo + (i : Int)))) = true from decide_eq_true (by rw [e]; rfl)]
      refine iteT ?_
      refine ⟨_, rfl, k1 _ ?_⟩
      unfold numM
      rw [find_at hi (fun j hj => decide_eq_false (hn j hj)) (decide_eq_true e)]
      rfl
    · rw [show decide (V.str z = V.str (toString (lo + (i : Int)))) = false from decide_eq_false (by intro q; exact e (V.str.inj q))]
      refine iteF ⟨rfl, ⟨_, rfl⟩, fun j hj => ?_⟩
      rcases Nat.lt_succ_iff_lt_or_eq.mp hj with q | q
      · exact hn j q
      · subst q; exact e
  · rintro σ H' ⟨rfl, ⟨v, rfl⟩, hn⟩
    refine k2 ?_
    unfold numM
    rw [find_none fun j hj => decide_eq_false (hn j hj)]
    rfl
theorem ok_name (F : Fun K "is_name" "is_name" s_is_name f fd) (T : Txt K mg C N) : FnOk P w K mg base CX0 1 f fd ["text"] spName := by
  refine F.ok sc_is_name (fun vs H Q E h => ?_) (fun cdv A outer s H vs Q E hr h => ?_)
  · obtain ⟨z, rfl, _⟩ := h
    rfl
  obtain ⟨z, rfl, hz, k⟩ := h
  refine ⟨_, pss_cons (ps_if (pt_not (pt_chain op_le op_le pe_int (pe_callB call_len_str (by rfl) T.len PySem.boot_len (pa_cons (pv 0) pa_nil)) (pe_gI T.gLN))) (pss_one (ps_ret pe_bl)) pss_nil)
    (pss_one (ps_ret (pe_callB (cr_all rfl) (by rfl) T.all (by decide +kernel) (pa_cons
      (pe_lc (own := [("sign", 1)]) (g := gName 1) rfl sc_is_name.nd (pi_str (pv 0)) (blkOk_by (N := ["text", "sign"]) (sc := defScope s_is_name) (by decide +kernel)) (fun _ _ _ _ _ => pg_name (i := 1) sc_is_name.nd rfl (Or.inl rfl)) (fun _ _ _ _ _ => pts_nil)
        (fun _ _ _ _ _ => pe_cmpR op_in_sign (pv 1) (pe_gS T.gLet) rfl)) pa_nil)))), ?_⟩
  refine ⟨_, rfl, _, rfl, big (by omega), _, _, rfl, rfl, _, rfl, ?_⟩
  by_cases c1 : (1 : Int) ≤ (z.length : Int)
  · rw [show decide ((1 : Int) ≤ (z.length : Int)) = true from decide_eq_true c1]
    refine iteT ⟨_, _, rfl, rfl, _, rfl, ?_⟩
    by_cases c2 : (z.length : Int) ≤ 6
    · rw [show decide ((z.length : Int) ≤ 6) = true from decide_eq_true c2]
      refine iteF ?_
      refine ⟨_, rfl, _, rfl, fun D hD => ?_⟩
      refine lc_it (walk_str (z := z)) (fun i H' => Same H H' ∧ H' D = some (.lst (((z.cps.toList.take i).map fun c => V.bl (decide (c ∈ LET)))))) ?_ (fun _ _ _ _ => trivial) ?_ ?_
      · exact ⟨same_new hD _, upd_same⟩
      · rintro i x H1 H2 hi ⟨s1, e1⟩ ⟨rfl, c, hc, rfl⟩
        have hc' : z.cps.toList[i]? = some c := by rw [Array.getElem?_toList]; exact hc
        have hi' : i < z.length := hi
        refine ⟨rfl, ?_⟩
        refine ⟨_, rfl, c, _, rfl, rfl, _, e1, ?_, ?_⟩
        · rw [List.length_map, List.length_take]
          exact small1000 (by omega)
        · refine ⟨same_upd s1 hD _, ?_⟩
          rw [upd_same, take_more hc', List.map_append]
          rfl
      · rintro H1 ⟨s1, e1⟩
        rw [List.take_of_length_le (by rw [Array.length_toList] <;> exact Nat.le_refl _)] at e1
        refine ⟨D, z.cps.toList.map fun c => decide (c ∈ LET), rfl, SqL.of (by rw [e1, List.map_map] <;> rfl), ?_⟩
        have e : nameM z = ((z.cps.toList.map fun c => decide (c ∈ LET)).all id) := by
          unfold nameM
          rw [decide_eq_true (show 1 ≤ z.length ∧ z.length ≤ 6 by omega), Bool.true_and, List.all_map]
          rfl
        rw [← e]
        exact k H1 s1
    · rw [show decide ((z.length : Int) ≤ 6) = false from decide_eq_false c2]
      refine iteT ?_
      have e : nameM z = false := by
        unfold nameM
        rw [decide_eq_false (show ¬ (1 ≤ z.length ∧ z.length ≤ 6) by omega), Bool.false_and]
      have q := k H (Same.refl H)
      rw [e] at q
      exact q
  · rw [show decide ((1 : Int) ≤ (z.length : Int)) = false from decide_eq_false c1]
    refine iteF ⟨_, rfl, ?_⟩
    refine iteT ?_
    have e : nameM z = false := by
      unfold nameM
      rw [decide_eq_false (show ¬ (1 ≤ z.length ∧ z.length ≤ 6) by omega), Bool.false_and]
    have q := k H (Same.refl H)
    rw [e] at q
    exact q
theorem kind_no {A : Prop} {a b : Str} (h : ¬ a = b) (q : A) : if decide (V.str a = V.str b) = true then False else A := by
  rw [decide_eq_false (by intro z; exact h (V.str.inj z))]
  exact iteF q
theorem ok_kind (F : Fun K "kind_of" "kind_of" s_kind_of f fd) (T : Txt K mg C N) : FnOk P w K mg base (L2.CX P w) 1 f fd ["sign"] (spKind N) := by
  refine F.okX sc_kind_of (fun vs H Q E h => ?_) (fun cdv A outer s H vs Q E hr h => ?_)
  · obtain ⟨z, rfl, _⟩ := h
    rfl
  obtain ⟨c, rfl, k1, k2⟩ := h
  refine ⟨_, pss_cons (ps_if (pt_cmpR op_in_sign (pv 0) (pe_gS T.gLet) rfl) (pss_one (ps_ret pe_str)) pss_nil)
    (pss_cons (ps_if (pt_cmpR op_in_sign (pv 0) (pe_gS T.gFig) rfl) (pss_one (ps_ret pe_str)) pss_nil)
    (pss_cons (ps_if (pt_cmpR op_in_sign (pv 0) (pe_gS T.gOth) rfl) (pss_one (ps_ret pe_str)) pss_nil)
    (pss_cons (ps_if (pt_cmpR op_eq (pv 0) pe_str (nomark _)) (pss_one (ps_ret pe_str)) pss_nil)
    (pss_one (ps_raise (W := fun cls d _ H => E cls d H) rfl (takes_of rfl rfl rfl rfl) (pmk_own PySem.F.excBase_ValueError T.xN T.gN T.kN (raises_own T.bN T.tN) rfl)))))), ?_⟩
  refine ⟨_, rfl, c, _, rfl, rfl, _, rfl, ?_⟩
  by_cases h1 : c ∈ LET
  · rw [show decide (c ∈ (("abcdefghijklmnopqrstuvwxyz" : Str)).cps.toList) = true from decide_eq_true h1]
    refine iteT (k1 .letter ?_)
    unfold kindM; rw [if_pos h1]
  rw [show decide (c ∈ (("abcdefghijklmnopqrstuvwxyz" : Str)).cps.toList) = false from decide_eq_false h1]
  refine iteF ⟨_, rfl, c, _, rfl, rfl, _, rfl, ?_⟩
  by_cases h2 : c ∈ FIG
  · rw [show decide (c ∈ (("0123456789" : Str)).cps.toList) = true from decide_eq_true h2]
    refine iteT (k1 .figure ?_)
    unfold kindM; rw [if_neg h1, if_pos h2]
  rw [show decide (c ∈ (("0123456789" : Str)).cps.toList) = false from decide_eq_false h2]
  refine iteF ⟨_, rfl, c, _, rfl, rfl, _, rfl, ?_⟩
  by_cases h3 : c ∈ OTH
  · rw [show decide (c ∈ (("+&|()[]" : Str)).cps.toList) = true from decide_eq_true h3]
    refine iteT (k1 .other ?_)
    unfold kindM; rw [if_neg h1, if_neg h2, if_pos h3]
  rw [show decide (c ∈ (("+&|()[]" : Str)).cps.toList) = false from decide_eq_false h3]
  refine iteF ⟨_, rfl, rfl, _, rfl, ?_⟩
  by_cases h4 : sg1 c = " "
  · rw [show decide (V.str (sg1 c) = V.str " ") = true from decide_eq_true (by rw [h4])]
    refine iteT (k1 .blank ?_)
    unfold kindM; rw [if_neg h1, if_neg h2, if_neg h3, if_pos h4]
  rw [show decide (V.str (sg1 c) = V.str " ") = false from decide_eq_false (by intro q; exact h4 (V.str.inj q))]
  refine iteF (k2 ?_)
  unfold kindM; rw [if_neg h1, if_neg h2, if_neg h3, if_neg h4]
end
end Aw

namespace Aw
open PySem L2
theorem kn_inj {a b : Kn} (h : a.nm = b.nm) : a = b := by
  revert h
  cases a <;> cases b <;> decide +kernel
theorem kn_dec (a b : Kn) : decide (V.str a.nm = V.str b.nm) = decide (a = b) := by
  cases a <;> cases b <;> decide +kernel
theorem kn_in (k : Kn) : inV (.str k.nm) [.str "letter", .str "figure"] = decide (k = .letter ∨ k = .figure) := by
  cases k <;> decide +kernel
theorem kn_blank (k : Kn) : (!decide (V.str k.nm = V.str "blank")) = decide (k ≠ .blank) := by
  cases k <;> decide +kernel
theorem ixN_last {n : Nat} (h0 : 0 < n) : ixN n (-1) = some (n - 1) := by
  unfold ixN
  rw [if_neg (by omega), if_pos (by omega)]
  exact congrArg some (by omega)
theorem at_last {xs : List V} {v : V} (h : xs[xs.length - 1]? = some v) (h0 : 0 < xs.length) : atI xs (-1) = some v := by
  unfold atI
  rw [ixN_last h0]
  exact h
theorem map_addLast {ws : List Str} {c : Nat} : (ws.map V.str).set (ws.length - 1) (.str (wd ws (ws.length - 1) ++ sg1 c)) = (addLast ws c).map V.str := by
  unfold addLast
  rw [List.map_set]
/-- what holds of the words between two signs -/
structure LexOk (z : Str) (i : Nat) (ws : List Str) (b : Kn) : Prop where
  go : lexGo (z.cps.toList.drop i) ws b = lexM z
  ne : b = .letter ∨ b = .figure → 0 < ws.length
  ln : ws.length ≤ i
  wl : ∀ w ∈ ws, w.length ≤ i
theorem mem_addLast {ws : List Str} {c : Nat} {w : Str} {i : Nat} (hw : ∀ w ∈ ws, w.length ≤ i) (h : w ∈ addLast ws c) : w.length ≤ i + 1 := by
  unfold addLast at h
  rcases List.mem_or_eq_of_mem_set h with q | q
  · exact Nat.le_succ_of_le (hw _ q)
  · subst q
    rw [len_app, len_sg1]
    rcases Nat.lt_or_ge (ws.length - 1) ws.length with q | q
    · exact Nat.succ_le_succ (hw _ (List.mem_of_getElem? (wd_get q)))
    · rw [wd_end (by omega)]
      show 0 + 1 ≤ i + 1
      omega
theorem LexOk.step {z : Str} {i c : Nat} {ws : List Str} {b k : Kn} (h : LexOk z i ws b) (hc : z.cps.toList[i]? = some c) (hk : kindM c = some k) : LexOk z (i + 1) (lexStep (ws, b) c k) k := by
  have hi : i < z.cps.toList.length := (List.getElem?_eq_some_iff.mp hc).1
  have e : z.cps.toList.drop i = c :: z.cps.toList.drop (i + 1) := by
    rw [List.drop_eq_getElem_cons hi]
    have : z.cps.toList[i] = c := by
      have q := List.getElem?_eq_getElem hi
      rw [hc] at q
      exact (Option.some.inj q).symm
    rw [this]
  have g := h.go
  rw [e] at g
  unfold lexGo at g
  rw [hk] at g
  have wl := h.wl
  have ln := h.ln
  have ne := h.ne
  refine ⟨g, ?_, ?_, ?_⟩
  · intro hb
    unfold lexStep
    by_cases h1 : k = b ∧ (k = .letter ∨ k = .figure)
    · rw [if_pos h1]
      unfold addLast
      rw [List.length_set]
      exact ne (h1.1 ▸ h1.2)
    · rw [if_neg h1, if_pos (by intro z; subst z; rcases hb with q | q <;> cases q)]
      rw [List.length_append]
      exact Nat.lt_of_lt_of_le Nat.zero_lt_one (Nat.le_add_left _ _)
  · unfold lexStep
    dsimp only
    split
    · unfold addLast
      rw [List.length_set]; omega
    · split
      · rw [List.length_append, List.length_singleton]; omega
      · omega
  · intro w hw
    unfold lexStep at hw
    dsimp only at hw
    split at hw
    · exact mem_addLast wl hw
    · split at hw
      · rcases List.mem_append.mp hw with q | q
        · exact Nat.le_succ_of_le (wl _ q)
        · rw [List.mem_singleton.mp q, len_sg1]; omega
      · exact Nat.le_succ_of_le (wl _ hw)
theorem LexOk.none {z : Str} {i c : Nat} {ws : List Str} {b : Kn} (h : LexOk z i ws b) (hc : z.cps.toList[i]? = some c) (hk : kindM c = none) : lexM z = none := by
  have hi : i < z.cps.toList.length := (List.getElem?_eq_some_iff.mp hc).1
  have e : z.cps.toList.drop i = c :: z.cps.toList.drop (i + 1) := by
    rw [List.drop_eq_getElem_cons hi]
    have : z.cps.toList[i] = c := by
      have q := List.getElem?_eq_getElem hi
      rw [hc] at q
      exact (Option.some.inj q).symm
    rw [this]
  have g := h.go
  rw [e] at g
  unfold lexGo at g
  rw [hk] at g
  exact g.symm
section
variable {P : Program} {w : World} {K : PySem.W.Frag} {mg : Str → Option Value} {base : Heap} {C N : Addr} {f : Addr} {fd : FuncData}
theorem ok_words {g : Addr} {gd : FuncData} (F : Fun K "words_of" "words_of" s_words_of f fd) (T : Txt K mg C N) (GK : FnOk P w K mg base (L2.CX P w) 1 g gd ["sign"] (spKind N)) (bK : Binds K gd ["sign"] []) (kK : PySem.W.keepIn K (.ref g) = true) (mK : mg "kind_of" = some (.ref g)) :
    FnOk P w K mg base (L2.CX P w) 2 f fd ["text"] (spWords N) := by
  refine F.okX sc_words_of (fun vs H Q E h => ?_) (fun cdv A outer s H vs Q E hr h => ?_)
  · obtain ⟨z, rfl, _⟩ := h
    rfl
  obtain ⟨z, rfl, hz, k1, k2⟩ := h
  have nd := sc_words_of.nd
  refine ⟨_, pss_cons (ps_set (i := 1) nd rfl (.inl rfl) (pe_lst pa_nil))
    (pss_cons (ps_set (i := 2) nd rfl (.inl rfl) pe_str)
    (pss_cons (ps_for (passes_of rfl) rfl (pi_str (pv 0)) (pg_name (i := 3) nd rfl (.inl rfl))
      (pss_cons (ps_set (i := 4) nd rfl (.inl rfl) (pe_call (E := E) GK hr rfl mK kK bK .nil (passes_call (W := fun cls d _ H => E cls d H) (takes_of rfl rfl rfl rfl) (fun _ _ _ _ h => h)) (pa_cons (pv 3) pa_nil)))
      (pss_cons (ps_if (PW.pt (pw_and (pt_cmpR op_eq (pv 4) (pv 2) (nomark _)) (pw_and1 (pt_cmpR op_in_seq (pv 4) (pe_tup (pa_cons pe_str (pa_cons pe_str pa_nil))) rfl))))
        (pss_one (ps_augS (pv 1) (pe_un un_neg pe_int) get_list (pv 3) in_addS set_list))
        (pss_one (ps_if (pt_cmpR op_ne (pv 4) pe_str (nomark _)) (pss_one (ps_expr (pe_bm PySem.F.plainAttrs_list PySem.F.slot_list_append PySem.F.type_list_append mt_append (pv 1) (pa_cons (pv 3) pa_nil)))) pss_nil)))
      (pss_one (ps_set (i := 2) nd rfl (.inl rfl) (pv 4))))))
    (pss_one (ps_ret (pv 1))))), ?_⟩
  refine ⟨(by show 0 ≤ sizeLine; decide), fun l hl => ?_⟩
  refine ⟨_, rfl, _, rfl, ?_⟩
  refine for_it (walk_str (z := z)) (fun i σ H' => ∃ (ws : List Str) (b : Kn) (v3 v4 : Option V), σ = [some (.str z), some (.ref l), some (.str b.nm), v3, v4] ∧ Same H H' ∧ H' l = some (.lst (ws.map V.str)) ∧ LexOk z i ws b)
    ⟨[], .blank, none, none, rfl, same_new hl _, upd_same, ⟨rfl, (by intro q; rcases q with q | q <;> cases q), Nat.le_refl _, fun _ h => by cases h⟩⟩ (fun _ _ _ _ _ => trivial) ?_ ?_
  · rintro i x σ H1 H2 hi ⟨ws, b, v3, v4, rfl, s1, e1, L⟩ ⟨rfl, c, hc, rfl⟩
    have hc' : z.cps.toList[i]? = some c := by rw [Array.getElem?_toList]; exact hc
    have hi' : i < z.length := hi
    refine ⟨_, rfl, c, rfl, fun k hk => ?_, fun hk => k2 (L.none hc' hk) _ s1⟩
    have L' := L.step hc' hk
    have wl := L.wl
    have ln := L.ln
    -- the two other ways: append, or nothing
    have other : ¬ (k = b ∧ (k = .letter ∨ k = .figure)) → ∀ H3, Same H H3 → H3 l = some (.lst (ws.map V.str)) → ∀ D : Ends, (∀ H4, Same H H4 → H4 l = some (.lst ((lexStep (ws, b) c k).map V.str)) → D.nx [some (.str z), some (.ref l), some (.str b.nm), some (.str (sg1 c)), some (.str k.nm)] H4) →
        (tIfS (tTest (tOp rNe (tVar 4) (tC (.str "blank")))) (tDrop (tBM K "list" (rAppend) (tVar 1) (tCons (tVar 3) tNil))) tNext) D [some (.str z), some (.ref l), some (.str b.nm), some (.str (sg1 c)), some (.str k.nm)] H3 := by
      intro hn H3 s3 e3 D q
      refine ⟨_, rfl, rfl, _, rfl, ?_⟩
      rw [kn_blank]
      unfold lexStep at q
      rw [if_neg hn] at q
      by_cases hb : k = .blank
      · rw [decide_eq_false (not_not_intro hb)]
        rw [if_neg (not_not_intro hb)] at q
        exact iteF (q H3 s3 e3)
      · rw [decide_eq_true hb]
        rw [if_pos hb] at q
        refine iteT ⟨_, rfl, .inl ⟨rfl, _, SqL.of e3⟩, _, rfl, l, _, _, rfl, rfl, e3, ?_, ?_⟩
        · rw [List.length_map]; exact small1000 (by omega)
        · refine q _ (same_upd s3 hl _) ?_
          rw [upd_same, List.map_append]
          rfl
    refine ⟨_, rfl, _, rfl, rfl, _, rfl, ?_⟩
    rw [kn_dec]
    by_cases hkb : k = b
    · rw [decide_eq_true hkb]
      refine iteT ⟨_, rfl, (by show 2 ≤ sizeLine; decide), fun p hp => ?_⟩
      refine ⟨p, _, rfl, .inr (SqT.of upd_same), rfl, rfl, _, rfl, ?_⟩
      rw [show (if false = true then !inV (V.str k.nm) [.str "letter", .str "figure"] else inV (V.str k.nm) [.str "letter", .str "figure"]) = decide (k = .letter ∨ k = .figure) from kn_in k]
      have npl : l ≠ p := ne_of_none e1 hp
      by_cases h2 : k = .letter ∨ k = .figure
      · rw [decide_eq_true h2]
        refine iteT ?_
        have h0 : 0 < ws.length := L.ne (hkb ▸ h2)
        have hw : wd ws (ws.length - 1) ∈ ws := List.mem_of_getElem? (wd_get (by omega))
        refine ⟨_, rfl, _, rfl, l, _, _, _, rfl, rfl, SqL.of (by rw [upd_ne npl]; exact e1), at_last (v := .str (wd ws (ws.length - 1))) ?_ (by rw [List.length_map]; exact h0), _, rfl, _, _, rfl, rfl, ?_, l, _, _, ws.length - 1, rfl, rfl, (by rw [upd_ne npl]; exact e1), ?_, ?_⟩
        · rw [List.length_map, List.getElem?_map, wd_get (by omega)]
          rfl
        · have := wl _ hw
          exact big (by show (wd ws (ws.length - 1)).length + 1 ≤ 100000; omega)
        · rw [List.length_map]; exact ixN_last h0
        · have el : lexStep (ws, b) c k = addLast ws c := by
            unfold lexStep
            rw [if_pos ⟨hkb, h2⟩]
          refine ⟨_, rfl, ?_⟩
          refine ⟨addLast ws c, k, _, _, rfl, same_upd (same_upd s1 (s1.free hp) _) hl _, (by rw [upd_same]; exact congrArg (fun l => some (HO.lst l)) map_addLast), ?_⟩
          rw [el] at L'
          exact L'
      · rw [decide_eq_false h2]
        refine iteF ?_
        exact other (fun q => h2 q.2) _ (same_upd s1 (s1.free hp) _) (by rw [upd_ne npl]; exact e1) _ fun H4 s4 e4 => ⟨_, rfl, _, k, _, _, rfl, s4, e4, L'⟩
    · rw [decide_eq_false hkb]
      refine iteF ?_
      exact other (fun q => hkb q.1) _ s1 e1 _ fun H4 s4 e4 => ⟨_, rfl, _, k, _, _, rfl, s4, e4, L'⟩
  · rintro σ H1 ⟨ws, b, v3, v4, rfl, s1, e1, L⟩
    refine ⟨_, rfl, k1 ws ?_ l _ s1 hl e1⟩
    have g := L.go
    rw [List.drop_of_length_le (by rw [Array.length_toList] <;> exact Nat.le_refl _)] at g
    exact g.symm
end
end Aw

namespace Aw
open PySem L2
/-! ### the pieces' makers -/
def spNumP : Sp := fun vs H Q _ => ∃ n, vs = [.int n] ∧ ∀ v H', Same H H' → TA H' v (.num n) → Q v H'
def spNameP : Sp := fun vs H Q _ => ∃ s, vs = [.str s] ∧ ∀ v H', Same H H' → TA H' v (.name s) → Q v H'
def spGateP : Sp := fun vs H Q _ => ∃ s b v t, vs = [.str s, .int b, v] ∧ TA H v t ∧ ∀ v' H', Same H H' → TA H' v' (.gate s b t) → Q v' H'
def spJoinP : Sp := fun vs H Q _ => ∃ (k : Kd) (l : Addr) (xs : List V) (ts : List T), vs = [.str k.nm, .ref l] ∧ H l = some (.lst xs) ∧ TAs H xs ts ∧ ∀ v' H', Same H H' → TA H' v' (.join k ts) → Q v' H'
def spGate (C N : Addr) (f : List Str → Nat → Option (T × Nat)) (dp : Int) : Sp := fun vs H Q E => ∃ p l ws i, vs = [.ref p, .int dp] ∧ RdAt C p l ws i H ∧ WsOk ws ∧ RdOut C N p l ws H Q E (gateM ws (f ws) i)
/-- the constants that are objects of the top -/
structure TxtC (K : PySem.W.Frag) (mg : Str → Option Value) (w : World) : Prop where
  gLv : ∃ a, mg "LEVELS" = some (.ref a) ∧ ∀ H, SqT K H a [.str "most", .str "least", .str "sum"]
  gSg : ∃ a, mg "SIGNS" = some (.ref a) ∧ ∀ k : Kd, KDct K w a k.nm (.str k.sg)
def Adv (f : List Str → Nat → Option (T × Nat)) : Prop := ∀ ws i t j, f ws i = some (t, j) → i < j
theorem chain_adv {ws : List Str} {f : Nat → Option (T × Nat)} (ha : ∀ i t j, f i = some (t, j) → i < j) {sg : Str} : ∀ (n : Nat) {ts ts' : List T} {j j' : Nat}, chainM ws f sg n ts j = some (ts', j') → j ≤ j'
  | 0, _, _, _, _, h => by simp [chainM] at h
  | n + 1, ts, ts', j, j', h => by
    unfold chainM at h
    by_cases c : wd ws j = sg
    · rw [if_pos c] at h
      cases e : f (j + 1) with
      | none => rw [e] at h; cases h
      | some r =>
        obtain ⟨t, k⟩ := r
        rw [e] at h
        have h1 := ha _ _ _ e
        have h2 := chain_adv ha n h
        omega
    · rw [if_neg c] at h
      cases h
      exact Nat.le_refl _
theorem level_adv {f : List Str → Nat → Option (T × Nat)} (ha : Adv f) : ∀ (ks : List Kd), Adv fun ws => levelM ws (f ws) ks
  | [] => fun ws i t j h => ha ws i t j h
  | k :: ks => fun ws i t j h => by
    have ih := level_adv ha ks ws
    dsimp only at h
    unfold levelM at h
    cases e : levelM ws (f ws) ks i with
    | none => rw [e] at h; cases h
    | some r =>
      obtain ⟨t1, j1⟩ := r
      rw [e] at h
      dsimp only at h
      have h1 := ih _ _ _ e
      cases e2 : chainM ws (levelM ws (f ws) ks) k.sg (ws.length + 1) [t1] j1 with
      | none => rw [e2] at h; cases h
      | some r2 =>
        obtain ⟨ts, j2⟩ := r2
        rw [e2] at h
        dsimp only at h
        have h2 := chain_adv (fun i t j q => ih i t j q) _ e2
        cases e3 : joinM k ts with
        | none => rw [e3] at h; cases h
        | some t3 =>
          rw [e3] at h
          cases h
          omega
theorem gate_adv {f : List Str → Nat → Option (T × Nat)} (ha : Adv f) : Adv fun ws => gateM ws (f ws) := fun ws i t j h => by
  dsimp only at h
  unfold gateM at h
  split at h
  · split at h
    · cases h
    · split at h
      · cases e : f ws (i + 3) with
        | none => rw [e] at h; cases h
        | some r =>
          rw [e] at h
          cases h
          have := ha ws (i + 3) r.1 r.2 e
          omega
      · cases h
  · cases h
theorem piece_adv : ∀ d : Nat, Adv fun ws => pieceM ws d
  | 0 => fun ws i t j h => by simp [pieceM] at h
  | d + 1 => fun ws i t j h => by
    have ih := piece_adv d
    dsimp only at h
    unfold pieceM at h
    split at h
    · split at h
      · cases h
      · rename_i t1 j1 e
        have h1 := level_adv ih kinds ws _ _ _ e
        split at h
        · cases h; omega
        · cases h
    · split at h
      · have := gate_adv ih ws _ _ _ h
        omega
      · split at h
        · cases h; omega
        · cases e : numM 0 (wd ws i) with
          | none => rw [e] at h; cases h
          | some n => rw [e] at h; cases h; omega
section
variable {P : Program} {w : World} {K : PySem.W.Frag} {mg : Str → Option Value} {base : Heap} {C N : Addr} {f : Addr} {fd : FuncData}
theorem ok_numP (F : Fun K "number_piece" "number_piece" s_number_piece f fd) : FnOk P w K mg base CX0 1 f fd ["number"] spNumP := by
  refine F.ok sc_number_piece (fun vs H Q E h => ?_) (fun cdv A outer s H vs Q E hr h => ?_)
  · obtain ⟨n, rfl, _⟩ := h
    rfl
  obtain ⟨n, rfl, k⟩ := h
  refine ⟨_, pss_one (ps_ret (pe_tup (pa_cons pe_str (pa_cons (pv 0) pa_nil)))), ?_⟩
  exact ⟨_, rfl, (by show 2 ≤ sizeLine; decide), fun p hp => k _ _ (same_new hp _) (.num upd_same)⟩
theorem ok_nameP (F : Fun K "name_piece" "name_piece" s_name_piece f fd) : FnOk P w K mg base CX0 1 f fd ["name"] spNameP := by
  refine F.ok sc_name_piece (fun vs H Q E h => ?_) (fun cdv A outer s H vs Q E hr h => ?_)
  · obtain ⟨n, rfl, _⟩ := h
    rfl
  obtain ⟨n, rfl, k⟩ := h
  refine ⟨_, pss_one (ps_ret (pe_tup (pa_cons pe_str (pa_cons (pv 0) pa_nil)))), ?_⟩
  exact ⟨_, rfl, (by show 2 ≤ sizeLine; decide), fun p hp => k _ _ (same_new hp _) (.name upd_same)⟩
theorem ok_gateP (F : Fun K "gate_piece" "gate_piece" s_gate_piece f fd) : FnOk P w K mg base CX0 1 f fd ["name", "bound", "piece"] spGateP := by
  refine F.ok sc_gate_piece (fun vs H Q E h => ?_) (fun cdv A outer s H vs Q E hr h => ?_)
  · obtain ⟨s, b, v, t, rfl, _⟩ := h
    rfl
  obtain ⟨s, b, v, t, rfl, ht, k⟩ := h
  refine ⟨_, pss_one (ps_ret (pe_tup (pa_cons pe_str (pa_cons (pv 0) (pa_cons (pv 1) (pa_cons (pv 2) pa_nil)))))), ?_⟩
  exact ⟨_, rfl, _, rfl, _, rfl, (by show 4 ≤ sizeLine; decide), fun p hp => k _ _ (same_new hp _) (.gate upd_same (ht.mono (.of_same (same_new hp _))))⟩
theorem ok_joinP (F : Fun K "joined_piece" "joined_piece" s_joined_piece f fd) (tup : mg "tuple" = none) : FnOk P w K mg base CX0 1 f fd ["kind", "pieces"] spJoinP := by
  refine F.ok sc_joined_piece (fun vs H Q E h => ?_) (fun cdv A outer s H vs Q E hr h => ?_)
  · obtain ⟨kd, l, xs, ts, rfl, _⟩ := h
    rfl
  obtain ⟨kd, l, xs, ts, rfl, hl, ht, k⟩ := h
  refine ⟨_, pss_one (ps_ret (pe_tup (pa_cons (pv 0) (pa_cons (pe_callTy call_tuple_of (by rfl) tup (by decide +kernel) (pa_cons (pv 1) pa_nil)) pa_nil)))), ?_⟩
  refine ⟨_, rfl, _, rfl, l, xs, rfl, .inl ⟨SqL.of hl, fun q hq => ?_⟩⟩
  refine ⟨(by show 2 ≤ sizeLine; decide), fun p hp => ?_⟩
  have s1 := same_new hq (.tup xs)
  have s2 := same_new hp (.tup [.str kd.nm, .ref q])
  exact k _ _ (s1.trans s2) (.join upd_same (s2 _ _ upd_same) (ht.mono (.of_same (s1.trans s2))))
theorem RdOut.mono {C N p l : Addr} {ws : List Str} {H H1 : Hp} {Q : VK} {E : XK} {o : Option (T × Nat)} (b : But p H H1) (h : RdOut C N p l ws H Q E o) : RdOut C N p l ws H1 Q E o := by
  cases o with
  | none => exact fun H' b' => h H' (b.trans b')
  | some r => exact fun v H' b' => h v H' (b.trans b')
/-- every call of a method that raises nothing -/
theorem RdAt.dx {C p l : Addr} {ws : List Str} {i : Nat} {H : Hp} (h : RdAt C p l ws i H) : ∃ dx, H p = some (.ins C dx (rflds l i)) := h.ob
theorem str_dec (a b : Str) : decide (V.str a = V.str b) = decide (a = b) := by
  by_cases h : a = b
  · rw [decide_eq_true h, decide_eq_true (by rw [h])]
  · rw [decide_eq_false h, decide_eq_false (by intro q; exact h (V.str.inj q))]
theorem ok_piece0 (F : Fun K "read_piece" "read_piece" s_read_piece f fd) (T : Txt K mg C N) {k : Nat} : FnOk P w K mg base (L2.CX P w) (k + 1) f fd ["reader", "deep"] (spPiece C N (fun ws => pieceM ws 0) 3) := by
  refine F.okX sc_read_piece (fun vs H Q E h => ?_) (fun cdv A outer s H vs Q E hr h => ?_)
  · obtain ⟨p, l, ws, i, rfl, _⟩ := h
    rfl
  obtain ⟨p, l, ws, i, rfl, R, W, q⟩ := h
  refine ⟨_, pss_cons (ps_if (pt_cmpR op_gt (pv 1) (pe_gI T.gDe) (nomark _)) (pss_one (ps_raise (W := fun cls d _ H => E cls d H) rfl (takes_of rfl rfl rfl rfl) (pmk_own PySem.F.excBase_ValueError T.xN T.gN T.kN (raises_own T.bN T.tN) rfl))) pss_nil)
    (pss_cons ps_never (pss_cons ps_never (pss_cons ps_never (pss_cons ps_never (pss_one ps_never))))), ?_⟩
  refine ⟨_, rfl, _, _, rfl, rfl, _, rfl, iteT ?_⟩
  exact q H (But.refl p H)
structure Mths (K : PySem.W.Frag) (C fA fT fX : Addr) : Prop where
  mA : Meth K C "ahead" fA
  mT : Meth K C "taken" fT
  mX : Meth K C "expect" fX
/-- the smaller defs as they are called by the reading -/
structure Low (P : Program) (w : World) (K : PySem.W.Frag) (mg : Str → Option Value) (base : Heap) (C N : Addr) : Prop where
  A : ∃ f fd, FnOk P w K mg base CX0 1 f fd ["self"] (spAhead C) ∧ Binds K fd ["self"] [] ∧ Meth K C "ahead" f
  T : ∃ f fd, FnOk P w K mg base CX0 2 f fd ["self"] (spTaken C) ∧ Binds K fd ["self"] [] ∧ Meth K C "taken" f
  X : ∃ f fd, FnOk P w K mg base (L2.CX P w) 3 f fd ["self", "word"] (spExpect C N) ∧ Binds K fd ["self", "word"] [] ∧ Meth K C "expect" f
  nm : ∃ f fd, FnOk P w K mg base CX0 1 f fd ["text"] spName ∧ Binds K fd ["text"] [] ∧ PySem.W.keepIn K (.ref f) = true ∧ mg "is_name" = some (.ref f)
  nu : ∃ f fd, FnOk P w K mg base (L2.CX P w) 1 f fd ["word", "lowest"] (spNum N) ∧ Binds K fd ["word", "lowest"] [] ∧ PySem.W.keepIn K (.ref f) = true ∧ mg "number_of" = some (.ref f)
  pN : ∃ f fd, FnOk P w K mg base CX0 1 f fd ["number"] spNumP ∧ Binds K fd ["number"] [] ∧ PySem.W.keepIn K (.ref f) = true ∧ mg "number_piece" = some (.ref f)
  pS : ∃ f fd, FnOk P w K mg base CX0 1 f fd ["name"] spNameP ∧ Binds K fd ["name"] [] ∧ PySem.W.keepIn K (.ref f) = true ∧ mg "name_piece" = some (.ref f)
  pG : ∃ f fd, FnOk P w K mg base CX0 1 f fd ["name", "bound", "piece"] spGateP ∧ Binds K fd ["name", "bound", "piece"] [] ∧ PySem.W.keepIn K (.ref f) = true ∧ mg "gate_piece" = some (.ref f)
  pJ : ∃ f fd, FnOk P w K mg base CX0 1 f fd ["kind", "pieces"] spJoinP ∧ Binds K fd ["kind", "pieces"] [] ∧ PySem.W.keepIn K (.ref f) = true ∧ mg "joined_piece" = some (.ref f)
theorem len_lit {n : Nat} {z : Str} (h : z.length = n) (hn : n ≤ 1000) : z.length ≤ 1000 := h ▸ hn
theorem ok_gate {fs : List Str → Nat → Option (Aw.T × Nat)} {dp : Int} {g : Addr} {gd : FuncData} {k : Nat} (hk : 3 ≤ k) (F : Fun K "read_gate" "read_gate" s_read_gate f fd) (T : Txt K mg C N) (L : Low P w K mg base C N)
    (GP : FnOk P w K mg base (L2.CX P w) k g gd ["reader", "deep"] (spPiece C N fs (dp + 1))) (bP : Binds K gd ["reader", "deep"] []) (kP : PySem.W.keepIn K (.ref g) = true) (mP : mg "read_piece" = some (.ref g)) :
    FnOk P w K mg base (L2.CX P w) (k + 1) f fd ["reader", "deep"] (spGate C N fs dp) := by
  obtain ⟨fT, dT, GT, bT, mT⟩ := L.T
  obtain ⟨fX, dX, GX, bX, mX⟩ := L.X
  obtain ⟨fn, dn, Gn, bn, kn, mn⟩ := L.nm
  obtain ⟨fu, du, Gu, bu, ku, mu⟩ := L.nu
  obtain ⟨fg, dg, Gg, bg, kg, mg'⟩ := L.pG
  refine F.okX sc_read_gate (fun vs H Q E h => ?_) (fun cdv A outer s H vs Q E hr h => ?_)
  · obtain ⟨p, l, ws, i, rfl, _⟩ := h
    rfl
  obtain ⟨p, l, ws, i, rfl, R, W, q⟩ := h
  have nd := sc_read_gate.nd
  have hr1 : Room 1 _ := hr.mono (by omega)
  have hr2 : Room 2 _ := hr.mono (by omega)
  have hr3 : Room 3 _ := hr.mono (by omega)
  refine ⟨_, pss_cons (ps_set (i := 2) nd rfl (.inl rfl) (pe_meth0 (pv 0) T.cl mT GT hr2 bT .nil pass0))
    (pss_cons (ps_if (pt_not (pt_val (pe_call Gn hr1 rfl mn kn bn .nil pass0 (pa_cons (pv 2) pa_nil))))
      (pss_one (ps_raise (W := fun cls d _ H => E cls d H) rfl (takes_of rfl rfl rfl rfl) (pmk_own PySem.F.excBase_ValueError T.xN T.gN T.kN (raises_own T.bN T.tN) rfl))) pss_nil)
    (pss_cons (ps_set (i := 3) nd rfl (.inl rfl) (pe_call (E := E) Gu hr1 rfl mu ku bu .nil (passes_call (W := fun cls d _ H => E cls d H) (takes_of rfl rfl rfl rfl) (fun _ _ _ _ h => h)) (pa_cons (pe_meth0 (pv 0) T.cl mT GT hr2 bT .nil pass0) (pa_cons pe_int pa_nil))))
    (pss_cons (ps_expr (pe_meth (E := E) (pv 0) T.cl mX GX hr3 bX .nil (passes_call (W := fun cls d _ H => E cls d H) (takes_of rfl rfl rfl rfl) (fun _ _ _ _ h => h)) (pa_cons pe_str pa_nil)))
    (pss_one (ps_ret (pe_call Gg hr1 rfl mg' kg bg .nil pass0 (pa_cons (pv 2) (pa_cons (pv 3) (pa_cons
      (pe_call (E := E) GP hr rfl mP kP bP .nil (passes_call (W := fun cls d _ H => E cls d H) (takes_of rfl rfl rfl rfl) (fun _ _ _ _ h => h)) (pa_cons (pv 0) (pa_cons (pe_op op_add (pv 1) pe_int) pa_nil))) pa_nil))))))))), ?_⟩
  have an : ∀ i, (rflds l i).lookup ("taken" : Str) = none := fun i => rflds_no _ _ (by decide +kernel) (by decide +kernel)
  have ax : ∀ i, (rflds l i).lookup ("expect" : Str) = none := fun i => rflds_no _ _ (by decide +kernel) (by decide +kernel)
  obtain ⟨dx, hp⟩ := R.ob
  refine ⟨_, rfl, p, dx, _, rfl, hp, an _, p, l, ws, i, rfl, R, fun H1 b1 R1 => ?_⟩
  refine ⟨_, rfl, wd ws i, rfl, W.wd i, fun H2 s2 => ?_⟩
  have R2 := R1.mono s2
  have b2 : But p H H2 := b1.trans (.of_same s2)
  refine ⟨_, rfl, ?_⟩
  unfold gateM at q
  cases e : nameM (wd ws i) with
  | false =>
    rw [e, if_neg Bool.false_ne_true] at q
    exact iteT (q H2 b2)
  | true =>
    rw [e, if_pos rfl] at q
    refine iteF ?_
    obtain ⟨dx2, hp2⟩ := R2.ob
    refine ⟨_, rfl, p, dx2, _, rfl, hp2, an _, p, l, ws, i + 1, rfl, R2, fun H3 b3 R3 => ?_⟩
    have b3' := b2.trans b3
    refine ⟨wd ws (i + 1), 1, rfl, by decide, by decide, fun n hn => ?_, fun hn => ?_⟩
    · rw [hn] at q
      dsimp only at q
      obtain ⟨dx3, hp3⟩ := R3.ob
      refine ⟨_, rfl, p, dx3, _, rfl, hp3, ax _, p, l, ws, i + 1 + 1, "]", rfl, R3, (by decide +kernel), W.ws, fun e2 H4 b4 R4 => ?_, fun e2 H4 b4 => ?_⟩
      · rw [show wd ws (i + 2) = "]" from e2, if_pos rfl] at q
        have b4' := b3'.trans b4
        refine ⟨_, rfl, _, rfl, _, rfl, _, rfl, _, _, rfl, rfl, p, l, ws, i + 3, rfl, R4, W, ?_⟩
        cases e3 : fs ws (i + 3) with
        | none =>
          rw [e3] at q
          exact fun H5 b5 => q H5 (b4'.trans b5)
        | some r =>
          obtain ⟨t, j⟩ := r
          rw [e3] at q
          intro v H5 b5 R5 tv
          refine ⟨wd ws i, n, v, t, rfl, tv, fun v' H6 s6 tv' => ?_⟩
          exact q v' H6 ((b4'.trans b5).trans (.of_same s6)) (R5.mono s6) tv'
      · rw [if_neg (show ¬ wd ws (i + 2) = "]" from e2)] at q
        exact q H4 (b3'.trans b4)
    · rw [hn] at q
      exact q H3 b3'
end
end Aw

namespace Aw
open PySem L2
section
variable {P : Program} {w : World} {K : PySem.W.Frag} {mg : Str → Option Value} {base : Heap} {C N : Addr} {f : Addr} {fd : FuncData}
theorem ok_pieceS {d : Nat} {dp : Int} (hdp : dp ≤ 2) {gl gg : Addr} {ld gd : FuncData} {k : Nat} (hk : 3 ≤ k) (F : Fun K "read_piece" "read_piece" s_read_piece f fd) (T : Txt K mg C N) (L : Low P w K mg base C N)
    (GL : FnOk P w K mg base (L2.CX P w) k gl ld ["reader", "level", "deep"] (spLevel C N kinds (fun ws => pieceM ws d) 0 (dp + 1))) (bL : Binds K ld ["reader", "level", "deep"] []) (kL : PySem.W.keepIn K (.ref gl) = true) (mL : mg "read_level" = some (.ref gl))
    (GG : FnOk P w K mg base (L2.CX P w) k gg gd ["reader", "deep"] (spGate C N (fun ws => pieceM ws d) dp)) (bG : Binds K gd ["reader", "deep"] []) (kG : PySem.W.keepIn K (.ref gg) = true) (mG : mg "read_gate" = some (.ref gg)) :
    FnOk P w K mg base (L2.CX P w) (k + 1) f fd ["reader", "deep"] (spPiece C N (fun ws => pieceM ws (d + 1)) dp) := by
  obtain ⟨fT, dT, GT, bT, mT⟩ := L.T
  obtain ⟨fX, dX, GX, bX, mX⟩ := L.X
  obtain ⟨fn, dn, Gn, bn, kn, mn⟩ := L.nm
  obtain ⟨fu, du, Gu, bu, ku, mu⟩ := L.nu
  obtain ⟨fs, ds, Gs, bs, ks, ms⟩ := L.pS
  obtain ⟨fN, dN, GN, bN, kN, mN⟩ := L.pN
  refine F.okX sc_read_piece (fun vs H Q E h => ?_) (fun cdv A outer s H vs Q E hr h => ?_)
  · obtain ⟨p, l, ws, i, rfl, _⟩ := h
    rfl
  obtain ⟨p, l, ws, i, rfl, R, W, q⟩ := h
  have nd := sc_read_piece.nd
  have hr1 : Room 1 _ := hr.mono (by omega)
  have hr2 : Room 2 _ := hr.mono (by omega)
  have hr3 : Room 3 _ := hr.mono (by omega)
  refine ⟨_, pss_cons (ps_if (pt_cmpR op_gt (pv 1) (pe_gI T.gDe) (nomark _)) (pss_one (ps_raise (W := fun cls d _ H => E cls d H) rfl (takes_of rfl rfl rfl rfl) (pmk_own PySem.F.excBase_ValueError T.xN T.gN T.kN (raises_own T.bN T.tN) rfl))) pss_nil)
    (pss_cons (ps_set (i := 2) nd rfl (.inl rfl) (pe_meth0 (pv 0) T.cl mT GT hr2 bT .nil pass0))
    (pss_cons (ps_if (pt_cmpR op_eq (pv 2) pe_str (nomark _))
      (pss_cons (ps_set (i := 3) nd rfl (.inl rfl) (pe_call (E := E) GL hr rfl mL kL bL .nil (passes_call (W := fun cls d _ H => E cls d H) (takes_of rfl rfl rfl rfl) (fun _ _ _ _ h => h)) (pa_cons (pv 0) (pa_cons pe_int (pa_cons (pe_op op_add (pv 1) pe_int) pa_nil)))))
      (pss_cons (ps_expr (pe_meth (E := E) (pv 0) T.cl mX GX hr3 bX .nil (passes_call (W := fun cls d _ H => E cls d H) (takes_of rfl rfl rfl rfl) (fun _ _ _ _ h => h)) (pa_cons pe_str pa_nil)))
      (pss_one (ps_ret (pv 3))))) pss_nil)
    (pss_cons (ps_if (pt_cmpR op_eq (pv 2) pe_str (nomark _))
      (pss_one (ps_ret (pe_call (E := E) GG hr rfl mG kG bG .nil (passes_call (W := fun cls d _ H => E cls d H) (takes_of rfl rfl rfl rfl) (fun _ _ _ _ h => h)) (pa_cons (pv 0) (pa_cons (pv 1) pa_nil))))) pss_nil)
    (pss_cons (ps_if (pt_val (pe_call Gn hr1 rfl mn kn bn .nil pass0 (pa_cons (pv 2) pa_nil)))
      (pss_one (ps_ret (pe_call Gs hr1 rfl ms ks bs .nil pass0 (pa_cons (pv 2) pa_nil)))) pss_nil)
    (pss_one (ps_ret (pe_call GN hr1 rfl mN kN bN .nil pass0 (pa_cons (pe_call (E := E) Gu hr1 rfl mu ku bu .nil (passes_call (W := fun cls d _ H => E cls d H) (takes_of rfl rfl rfl rfl) (fun _ _ _ _ h => h)) (pa_cons (pv 2) (pa_cons pe_int pa_nil))) pa_nil)))))))), ?_⟩
  have an : ∀ i, (rflds l i).lookup ("taken" : Str) = none := fun i => rflds_no _ _ (by decide +kernel) (by decide +kernel)
  have ax : ∀ i, (rflds l i).lookup ("expect" : Str) = none := fun i => rflds_no _ _ (by decide +kernel) (by decide +kernel)
  obtain ⟨dx, hp⟩ := R.ob
  refine ⟨_, rfl, _, _, rfl, rfl, _, rfl, ?_⟩
  rw [show decide ((2 : Int) < dp) = false from decide_eq_false (by omega)]
  refine iteF ⟨_, rfl, p, dx, _, rfl, hp, an _, p, l, ws, i, rfl, R, fun H1 b1 R1 => ?_⟩
  refine ⟨_, rfl, rfl, _, rfl, ?_⟩
  rw [str_dec]
  have q : RdOut C N p l ws H Q E (pieceM ws (d + 1) i) := q
  unfold pieceM at q
  by_cases c1 : wd ws i = "("
  · rw [decide_eq_true c1]
    rw [if_pos c1] at q
    refine iteT ⟨_, rfl, _, rfl, _, _, rfl, rfl, p, l, ws, i + 1, rfl, R1, W, ?_⟩
    cases e : levelM ws (pieceM ws d) kinds (i + 1) with
    | none =>
      rw [e] at q
      exact fun H2 b2 => q H2 (b1.trans b2)
    | some r =>
      obtain ⟨t, j⟩ := r
      rw [e] at q
      dsimp only at q
      intro v H2 b2 R2 tv
      obtain ⟨dx2, hp2⟩ := R2.ob
      refine ⟨_, rfl, p, dx2, _, rfl, hp2, ax _, p, l, ws, j, ")", rfl, R2, (by decide +kernel), W.ws, fun e2 H3 b3 R3 => ?_, fun e2 H3 b3 => ?_⟩
      · rw [if_pos e2] at q
        exact ⟨_, rfl, q v H3 ((b1.trans b2).trans b3) R3 (tv.mono (R2.tups b3))⟩
      · rw [if_neg e2] at q
        exact q H3 ((b1.trans b2).trans b3)
  · rw [decide_eq_false c1]
    rw [if_neg c1] at q
    refine iteF ⟨_, rfl, rfl, _, rfl, ?_⟩
    rw [str_dec]
    by_cases c2 : wd ws i = "["
    · rw [decide_eq_true c2]
      rw [if_pos c2] at q
      exact iteT ⟨_, rfl, _, rfl, p, l, ws, i + 1, rfl, R1, W, q.mono b1⟩
    · rw [decide_eq_false c2]
      rw [if_neg c2] at q
      refine iteF ⟨_, rfl, wd ws i, rfl, W.wd i, fun H2 s2 => ?_⟩
      have R2 := R1.mono s2
      have b2 : But p H H2 := b1.trans (.of_same s2)
      refine ⟨_, rfl, ?_⟩
      cases e : nameM (wd ws i) with
      | true =>
        rw [e, if_pos rfl] at q
        exact iteT ⟨_, rfl, wd ws i, rfl, fun v H3 s3 tv => q v H3 (b2.trans (.of_same s3)) (R2.mono s3) tv⟩
      | false =>
        rw [e, if_neg Bool.false_ne_true] at q
        refine iteF ⟨_, rfl, wd ws i, 0, rfl, by decide, by decide, fun n hn => ?_, fun hn => ?_⟩
        · rw [hn] at q
          exact ⟨n, rfl, fun v H3 s3 tv => q v H3 (b2.trans (.of_same s3)) (R2.mono s3) tv⟩
        · rw [hn] at q
          exact q H2 b2
theorem ok_level_end {fs : List Str → Nat → Option (Aw.T × Nat)} {dp : Int} {g : Addr} {gd : FuncData} {k : Nat} (F : Fun K "read_level" "read_level" s_read_level f fd) (T : Txt K mg C N) (TC : TxtC K mg w)
    (GP : FnOk P w K mg base (L2.CX P w) k g gd ["reader", "deep"] (spPiece C N fs dp)) (bP : Binds K gd ["reader", "deep"] []) (kP : PySem.W.keepIn K (.ref g) = true) (mP : mg "read_piece" = some (.ref g)) :
    FnOk P w K mg base (L2.CX P w) (k + 1) f fd ["reader", "level", "deep"] (spLevel C N [] fs 3 dp) := by
  obtain ⟨aL, gL, tL⟩ := TC.gLv
  refine F.okX sc_read_level (fun vs H Q E h => ?_) (fun cdv A outer s H vs Q E hr h => ?_)
  · obtain ⟨p, l, ws, i, rfl, _⟩ := h
    rfl
  obtain ⟨p, l, ws, i, rfl, R, W, q⟩ := h
  refine ⟨_, pss_cons (ps_if (pt_cmpR op_eq (pv 1) (pe_callB call_len_seq (by rfl) T.len PySem.boot_len (pa_cons (pe_glob (v := .ref aL) rfl gL rfl) pa_nil)) (nomark _))
      (pss_one (ps_ret (pe_call (E := E) GP hr rfl mP kP bP .nil (passes_call (W := fun cls d _ H => E cls d H) (takes_of rfl rfl rfl rfl) (fun _ _ _ _ h => h)) (pa_cons (pv 0) (pa_cons (pv 2) pa_nil))))) pss_nil)
    (pss_cons ps_never (pss_cons ps_never (pss_cons ps_never (pss_cons ps_never (pss_cons ps_never (pss_one ps_never)))))), ?_⟩
  refine ⟨_, rfl, aL, _, rfl, .inr (tL H), rfl, _, rfl, iteT ?_⟩
  exact ⟨_, rfl, _, rfl, p, l, ws, i, rfl, R, W, q⟩
def lvOf : Kd → Int
  | .most => 0
  | .least => 1
  | .sum => 2
theorem ok_level_step {fs : List Str → Nat → Option (Aw.T × Nat)} (ha : Adv fs) {kd : Kd} {ks : List Kd} {dp : Int} {k : Nat} (hk : 3 ≤ k) (F : Fun K "read_level" "read_level" s_read_level f fd) (T : Txt K mg C N) (TC : TxtC K mg w) (L : Low P w K mg base C N)
    (GL : FnOk P w K mg base (L2.CX P w) k f fd ["reader", "level", "deep"] (spLevel C N ks fs (lvOf kd + 1) dp)) (bL : Binds K fd ["reader", "level", "deep"] []) (kL : PySem.W.keepIn K (.ref f) = true) (mL : mg "read_level" = some (.ref f)) :
    FnOk P w K mg base (L2.CX P w) (k + 1) f fd ["reader", "level", "deep"] (spLevel C N (kd :: ks) fs (lvOf kd) dp) := by
  obtain ⟨aL, gL, tL⟩ := TC.gLv
  obtain ⟨aS, gS, tS⟩ := TC.gSg
  obtain ⟨fA, dA, GA, bA, mA⟩ := L.A
  obtain ⟨fT, dT, GT, bT, mT⟩ := L.T
  obtain ⟨fJ, dJ, GJ, bJ, kJ, mJ⟩ := L.pJ
  refine F.okX sc_read_level (fun vs H Q E h => ?_) (fun cdv A outer s H vs Q E hr h => ?_)
  · obtain ⟨p, l, ws, i, rfl, _⟩ := h
    rfl
  obtain ⟨p, l, ws, i, rfl, R, W, q⟩ := h
  have nd := sc_read_level.nd
  have hr1 : Room 1 _ := hr.mono (by omega)
  have hr2 : Room 2 _ := hr.mono (by omega)
  refine ⟨_, pss_cons (ps_if (pt_cmpR op_eq (pv 1) (pe_callB call_len_seq (by rfl) T.len PySem.boot_len (pa_cons (pe_glob (v := .ref aL) rfl gL rfl) pa_nil)) (nomark _)) (pss_one ps_never) pss_nil)
    (pss_cons (ps_set (i := 3) nd rfl (.inl rfl) (pe_ix ix_tup (pe_glob (v := .ref aL) rfl gL rfl) (pv 1) (fun _ _ => rfl)))
    (pss_cons (ps_set (i := 4) nd rfl (.inl rfl) (pe_lst (pa_cons (pe_call (E := E) GL hr rfl mL kL bL .nil (passes_call (W := fun cls d _ H => E cls d H) (takes_of rfl rfl rfl rfl) (fun _ _ _ _ h => h)) (pa_cons (pv 0) (pa_cons (pe_op op_add (pv 1) pe_int) (pa_cons (pv 2) pa_nil)))) pa_nil)))
    (pss_cons (ps_while (passes_of rfl) (pt_cmpR op_eq (pe_meth0 (pv 0) T.cl mA GA hr1 bA .nil pass0) (pe_ix ix_kdict (pe_glob (v := .ref aS) rfl gS rfl) (pv 3) (fun _ _ => rfl)) (nomark _))
      (pss_cons (ps_expr (pe_meth0 (pv 0) T.cl mT GT hr2 bT .nil pass0))
      (pss_one (ps_expr (pe_bm PySem.F.plainAttrs_list PySem.F.slot_list_append PySem.F.type_list_append mt_append (pv 4) (pa_cons (pe_call (E := E) GL hr rfl mL kL bL .nil (passes_call (W := fun cls d _ H => E cls d H) (takes_of rfl rfl rfl rfl) (fun _ _ _ _ h => h)) (pa_cons (pv 0) (pa_cons (pe_op op_add (pv 1) pe_int) (pa_cons (pv 2) pa_nil)))) pa_nil))))))
    (pss_cons (ps_if (pt_cmpR op_gt (pe_callB call_len_seq (by rfl) T.len PySem.boot_len (pa_cons (pv 4) pa_nil)) (pe_gI T.gMP) (nomark _))
      (pss_one (ps_raise (W := fun cls d _ H => E cls d H) rfl (takes_of rfl rfl rfl rfl) (pmk_own PySem.F.excBase_ValueError T.xN T.gN T.kN (raises_own T.bN T.tN) rfl))) pss_nil)
    (pss_cons (ps_if (pt_cmpR op_eq (pe_callB call_len_seq (by rfl) T.len PySem.boot_len (pa_cons (pv 4) pa_nil)) pe_int (nomark _)) (pss_one (ps_ret (pe_ix ix_list (pv 4) pe_int (fun _ _ => rfl)))) pss_nil)
    (pss_one (ps_ret (pe_call GJ hr1 rfl mJ kJ bJ .nil pass0 (pa_cons (pv 3) (pa_cons (pv 4) pa_nil)))))))))), ?_⟩
  have al : ∀ i, (rflds l i).lookup ("ahead" : Str) = none := fun i => rflds_no _ _ (by decide +kernel) (by decide +kernel)
  have an : ∀ i, (rflds l i).lookup ("taken" : Str) = none := fun i => rflds_no _ _ (by decide +kernel) (by decide +kernel)
  have adv := level_adv ha ks ws
  refine ⟨_, rfl, aL, _, rfl, .inr (tL H), rfl, _, rfl, ?_⟩
  rw [show decide (V.int (lvOf kd) = V.int ((([.str "most", .str "least", .str "sum"] : List V).length : Nat) : Int)) = false from by cases kd <;> decide]
  refine iteF ⟨_, rfl, aL, _, _, .str kd.nm, rfl, rfl, tL H, (by cases kd <;> rfl), ?_⟩
  refine ⟨_, rfl, _, rfl, _, _, rfl, rfl, _, rfl, p, l, ws, i, rfl, R, W, ?_⟩
  unfold levelM at q
  cases e : levelM ws (fs ws) ks i with
  | none =>
    rw [e] at q
    exact q
  | some r =>
    obtain ⟨t, j⟩ := r
    rw [e] at q
    dsimp only at q
    intro v H1 b1 R1 tv
    refine ⟨(by show 1 ≤ sizeLine; decide), fun a hna => ?_⟩
    have hpa : p ≠ a := R1.ne_new hna
    have hna0 : H a = none := by
      cases e0 : H a with
      | none => rfl
      | some o =>
        have := b1 a o e0 hpa.symm
        rw [hna] at this
        cases this
    have bu : ∀ {H2 : Hp} (o : HO), But p H H2 → But p H (upd H2 a o) := fun o b c u hc hcp => by
      rw [upd_ne (ne_of_none hc hna0)]
      exact b c u hc hcp
    have hlen : ws.length ≤ 1000 := R.ln
    generalize eR : chainM ws (levelM ws (fs ws) ks) kd.sg (ws.length + 1) [t] j = RES at q
    refine ⟨fun n σ H' => ∃ ts vs j', σ = [some (.ref p), some (.int (lvOf kd)), some (.int dp), some (.str kd.nm), some (.ref a)] ∧ But p H H' ∧ RdAt C p l ws j' H' ∧ H' a = some (.lst vs) ∧ TAs H' vs ts ∧ 0 < ts.length ∧ ts.length ≤ j' ∧
      (ts.length ≤ ws.length + 1) ∧ chainM ws (levelM ws (fs ws) ks) kd.sg n ts j' = RES ∧ 0 < n ∧ ws.length < n + j', ⟨ws.length + 1, [t], [v], j, rfl, bu _ b1, R1.mono (same_new hna _), upd_same, .cons (tv.mono (.of_same (same_new hna _))) .nil, Nat.zero_lt_one, ?_, ?_, eR, by omega, by omega⟩, ?_⟩
    · have := adv _ _ _ e
      show 1 ≤ j
      omega
    · show 1 ≤ _
      omega
    rintro n σ H2 ⟨ts, vs, j', rfl, b2, R2, e2, tvs, h0, hj, hw, ec, hn0, hf⟩
    obtain ⟨dx2, hp2⟩ := R2.ob
    refine ⟨_, rfl, p, dx2, _, rfl, hp2, al _, p, l, ws, j', rfl, R2, ?_⟩
    refine ⟨_, rfl, aS, kd.nm, _, rfl, rfl, tS kd, rfl, _, rfl, ?_⟩
    rw [str_dec]
    cases n with
    | zero => exact absurd hn0 (Nat.lt_irrefl 0)
    | succ n =>
      unfold chainM at ec
      by_cases c : wd ws j' = kd.sg
      · rw [if_pos c] at ec
        rw [decide_eq_true c]
        have hjl : j' < ws.length := wd_lt c (by cases kd <;> decide +kernel)
        refine iteT ⟨_, fun σ' H' h => ⟨n, Nat.lt_succ_self n, h⟩, ?_⟩
        refine ⟨_, rfl, p, dx2, _, rfl, hp2, an _, p, l, ws, j', rfl, R2, fun H3 b3 R3 => ?_⟩
        have e3 : H3 a = some (.lst vs) := b3 _ _ e2 hpa.symm
        refine ⟨_, rfl, .inl ⟨rfl, _, SqL.of e3⟩, _, rfl, _, rfl, _, _, rfl, rfl, _, rfl, p, l, ws, j' + 1, rfl, R3, W, ?_⟩
        have tvs3 := tvs.mono (R2.tups b3)
        cases e5 : levelM ws (fs ws) ks (j' + 1) with
        | none =>
          rw [e5] at ec
          subst ec
          exact fun H4 b4 => q H4 ((b2.trans b3).trans b4)
        | some r5 =>
          obtain ⟨t5, j5⟩ := r5
          rw [e5] at ec
          dsimp only at ec
          have h5 := adv _ _ _ e5
          intro v5 H4 b4 R4 tv5
          have e4 : H4 a = some (.lst vs) := b4 _ _ e3 hpa.symm
          have hvl := tvs.length
          have tvs4 := tvs3.mono (R3.tups b4)
          have tu : Tups H4 (upd H4 a (.lst (vs ++ [v5]))) := fun b xs hb => by
            rw [upd_ne (ne_of hb e4 (by intro z; cases z))]
            exact hb
          have hla : l ≠ a := by
            intro z
            subst z
            have z1 := R1.ls
            rw [hna] at z1
            cases z1
          refine ⟨a, _, _, rfl, rfl, e4, small1000 (by omega), ts ++ [t5], vs ++ [v5], j5, rfl, bu _ ((b2.trans b3).trans b4), ?_, upd_same, ((TAs.snoc tv5 tvs4).mono tu), ?_, ?_, ?_, ec, ?_, ?_⟩
          · obtain ⟨dx4, hp4⟩ := R4.ob
            exact ⟨⟨dx4, by rw [upd_ne hpa]; exact hp4⟩, by rw [upd_ne hla]; exact R4.ls, R4.ln⟩
          all_goals (try rw [List.length_append, List.length_singleton])
          all_goals omega
      · rw [if_neg c] at ec
        rw [decide_eq_false c]
        subst ec
        dsimp only at q
        refine iteF ⟨_, rfl, a, _, rfl, .inl (SqL.of e2), _, _, rfl, rfl, _, rfl, ?_⟩
        rw [tvs.length]
        unfold joinM at q
        by_cases c8 : 8 < ts.length
        · rw [if_pos c8] at q
          rw [show decide ((8 : Int) < ((ts.length : Nat) : Int)) = true from decide_eq_true (by omega)]
          exact iteT (q H2 b2)
        · rw [if_neg c8] at q
          rw [show decide ((8 : Int) < ((ts.length : Nat) : Int)) = false from decide_eq_false (by omega)]
          refine iteF ⟨_, rfl, a, _, rfl, .inl (SqL.of e2), rfl, _, rfl, ?_⟩
          rw [tvs.length]
          match ts, vs, tvs, h0, q with
          | [], _, _, h0, _ => exact absurd h0 (Nat.lt_irrefl 0)
          | [t1], [v1], .cons ta _, _, q =>
            refine iteT ⟨_, rfl, a, _, _, v1, rfl, rfl, SqL.of e2, rfl, ?_⟩
            exact q v1 H2 b2 R2 ta
          | t1 :: t2 :: r, _, tvs, _, q =>
            rw [show decide (V.int (((t1 :: t2 :: r).length : Nat) : Int) = V.int 1) = false from decide_eq_false (by intro z; have := V.int.inj z; simp only [List.length_cons] at this; omega)]
            refine iteF ⟨_, rfl, _, rfl, kd, a, _, _, rfl, e2, tvs, fun v' H3 s3 tv' => ?_⟩
            exact q v' H3 (b2.trans (.of_same s3)) (R2.mono s3) tv'
end
end Aw

namespace Aw
open PySem L2
theorem lexStep_wl {ws : List Str} {b k : Kn} {c i : Nat} (h : ∀ w ∈ ws, w.length ≤ i) : ∀ w ∈ lexStep (ws, b) c k, w.length ≤ i + 1 := by
  intro w hw
  unfold lexStep at hw
  dsimp only at hw
  split at hw
  · exact mem_addLast h hw
  · split at hw
    · rcases List.mem_append.mp hw with q | q
      · exact Nat.le_succ_of_le (h _ q)
      · rw [List.mem_singleton.mp q, len_sg1]; omega
    · exact Nat.le_succ_of_le (h _ hw)
theorem lexStep_len {ws : List Str} {b k : Kn} {c i : Nat} (h : ws.length ≤ i) : (lexStep (ws, b) c k).length ≤ i + 1 := by
  unfold lexStep
  dsimp only
  split
  · unfold addLast
    rw [List.length_set]; omega
  · split
    · rw [List.length_append, List.length_singleton]; omega
    · omega
theorem lexGo_bound : ∀ (cs : List Nat) (ws : List Str) (b : Kn) (i : Nat) {ws' : List Str}, (∀ w ∈ ws, w.length ≤ i) → ws.length ≤ i → lexGo cs ws b = some ws' → (∀ w ∈ ws', w.length ≤ i + cs.length) ∧ ws'.length ≤ i + cs.length
  | [], ws, b, i, ws', h1, h2, h => by
    unfold lexGo at h
    cases h
    exact ⟨h1, h2⟩
  | c :: r, ws, b, i, ws', h1, h2, h => by
    unfold lexGo at h
    cases e : kindM c with
    | none => rw [e] at h; cases h
    | some k =>
      rw [e] at h
      have q := lexGo_bound r _ _ (i + 1) (lexStep_wl h1) (lexStep_len h2) h
      have e1 : i + 1 + r.length = i + (c :: r).length := by rw [List.length_cons]; omega
      rw [e1] at q
      exact q
theorem lexM_ok {z : Str} {ws : List Str} (h : lexM z = some ws) : (∀ w ∈ ws, w.length ≤ z.length) ∧ ws.length ≤ z.length := by
  have q := lexGo_bound z.cps.toList [] .blank 0 (fun _ h => by cases h) (Nat.le_refl 0) h
  rw [Nat.zero_add, Array.length_toList] at q
  exact q
/-- the three of the reading that call one another, as they stand -/
structure Rec (K : PySem.W.Frag) (mg : Str → Option Value) (fl fp fg : Addr) (dl dp dg : FuncData) : Prop where
  FL : Fun K "read_level" "read_level" s_read_level fl dl
  FP : Fun K "read_piece" "read_piece" s_read_piece fp dp
  FG : Fun K "read_gate" "read_gate" s_read_gate fg dg
  bL : Binds K dl ["reader", "level", "deep"] []
  bP : Binds K dp ["reader", "deep"] []
  bG : Binds K dg ["reader", "deep"] []
  mL : mg "read_level" = some (.ref fl)
  mP : mg "read_piece" = some (.ref fp)
  mG : mg "read_gate" = some (.ref fg)
section
variable {P : Program} {w : World} {K : PySem.W.Frag} {mg : Str → Option Value} {base : Heap} {C N : Addr} {f : Addr} {fd : FuncData} {fl fp fg : Addr} {dl dp dg : FuncData}
theorem level_all {fs : List Str → Nat → Option (Aw.T × Nat)} (ha : Adv fs) {dq : Int} {k : Nat} (hk : 3 ≤ k) (T : Txt K mg C N) (TC : TxtC K mg w) (L : Low P w K mg base C N) (R : Rec K mg fl fp fg dl dp dg)
    (GP : FnOk P w K mg base (L2.CX P w) k fp dp ["reader", "deep"] (spPiece C N fs dq)) : FnOk P w K mg base (L2.CX P w) (k + 4) fl dl ["reader", "level", "deep"] (spLevel C N kinds fs 0 dq) := by
  have g3 := ok_level_end R.FL T TC GP R.bP R.FP.kp R.mP
  have g2 : FnOk P w K mg base (L2.CX P w) (k + 2) fl dl ["reader", "level", "deep"] (spLevel C N [.sum] fs (lvOf .sum) dq) := ok_level_step ha (by omega) R.FL T TC L g3 R.bL R.FL.kp R.mL
  have g1 : FnOk P w K mg base (L2.CX P w) (k + 3) fl dl ["reader", "level", "deep"] (spLevel C N [.least, .sum] fs (lvOf .least) dq) := ok_level_step ha (by omega) R.FL T TC L g2 R.bL R.FL.kp R.mL
  exact ok_level_step (kd := .most) ha (by omega) R.FL T TC L g1 R.bL R.FL.kp R.mL
theorem piece_all (T : Txt K mg C N) (TC : TxtC K mg w) (L : Low P w K mg base C N) (R : Rec K mg fl fp fg dl dp dg) : ∀ d : Nat, ∀ dq : Int, dq = 3 - (d : Nat) → FnOk P w K mg base (L2.CX P w) (4 + 6 * d) fp dp ["reader", "deep"] (spPiece C N (fun ws => pieceM ws d) dq)
  | 0, dq, h => by
    have e : dq = 3 := by omega
    subst e
    exact ok_piece0 (k := 3) R.FP T
  | d + 1, dq, h => by
    have G := piece_all T TC L R d (dq + 1) (by omega)
    have GL := level_all (piece_adv d) (by omega) T TC L R G
    have GG := ok_gate (dp := dq) (by omega) R.FG T L G R.bP R.FP.kp R.mP
    exact (ok_pieceS (k := 4 + 6 * d + 4) (by omega) (by omega) R.FP T L GL R.bL R.FL.kp R.mL (GG.mono (by omega)) R.bG R.FG.kp R.mG).mono (by omega)
theorem ok_read {fw fi : Addr} {dw di : FuncData} (F : Fun K "read" "read" s_read f fd) (T : Txt K mg C N) (TC : TxtC K mg w) (L : Low P w K mg base C N) (R : Rec K mg fl fp fg dl dp dg) (M : Mk K C fi) (GI : FnOk P w K mg base CX0 1 fi di ["self", "words"] (spInit C)) (bI : Binds K di ["self", "words"] [])
    (GW : FnOk P w K mg base (L2.CX P w) 2 fw dw ["text"] (spWords N)) (bW : Binds K dw ["text"] []) (kW : PySem.W.keepIn K (.ref fw) = true) (mW : mg "words_of" = some (.ref fw)) : FnOk P w K mg base (L2.CX P w) 27 f fd ["text"] (spRead N) := by
  obtain ⟨fA, dA, GA, bA, mA⟩ := L.A
  have GL : FnOk P w K mg base (L2.CX P w) 26 fl dl ["reader", "level", "deep"] (spLevel C N kinds (fun ws => pieceM ws 3) 0 0) := level_all (piece_adv 3) (by omega) T TC L R (piece_all T TC L R 3 0 (by decide))
  refine F.okX sc_read (fun vs H Q E h => ?_) (fun cdv A outer s H vs Q E hr h => ?_)
  · obtain ⟨z, rfl, _⟩ := h
    rfl
  obtain ⟨z, rfl, hz, k1, k2⟩ := h
  have nd := sc_read.nd
  have hr1 : Room 1 _ := hr.mono (by omega)
  have hr2 : Room 2 _ := hr.mono (by omega)
  refine ⟨_, pss_cons (ps_if (pt_cmpR op_gt (pe_callB call_len_str (by rfl) T.len PySem.boot_len (pa_cons (pv 0) pa_nil)) (pe_gI T.gMS) (nomark _))
      (pss_one (ps_raise (W := fun cls d _ H => E cls d H) rfl (takes_of rfl rfl rfl rfl) (pmk_own PySem.F.excBase_ValueError T.xN T.gN T.kN (raises_own T.bN T.tN) rfl))) pss_nil)
    (pss_cons (ps_set (i := 1) nd rfl (.inl rfl) (pe_call (E := E) GW hr2 rfl mW kW bW .nil (passes_call (W := fun cls d _ H => E cls d H) (takes_of rfl rfl rfl rfl) (fun _ _ _ _ h => h)) (pa_cons (pv 0) pa_nil)))
    (pss_cons (ps_if (pt_cmpR op_gt (pe_callB call_len_seq (by rfl) T.len PySem.boot_len (pa_cons (pv 1) pa_nil)) (pe_gI T.gMW) (nomark _))
      (pss_one (ps_raise (W := fun cls d _ H => E cls d H) rfl (takes_of rfl rfl rfl rfl) (pmk_own PySem.F.excBase_ValueError T.xN T.gN T.kN (raises_own T.bN T.tN) rfl))) pss_nil)
    (pss_cons (ps_set (i := 2) nd rfl (.inl rfl) (pe_make M GI hr2 rfl T.mgC bI .nil pass0 (pa_cons (pv 1) pa_nil)))
    (pss_cons (ps_set (i := 3) nd rfl (.inl rfl) (pe_call (E := E) GL hr rfl R.mL R.FL.kp R.bL .nil (passes_call (W := fun cls d _ H => E cls d H) (takes_of rfl rfl rfl rfl) (fun _ _ _ _ h => h)) (pa_cons (pv 2) (pa_cons pe_int (pa_cons pe_int pa_nil)))))
    (pss_cons (ps_if (pt_cmpR op_ne (pe_meth0 (pv 2) T.cl mA GA hr1 bA .nil pass0) pe_str (nomark _))
      (pss_one (ps_raise (W := fun cls d _ H => E cls d H) rfl (takes_of rfl rfl rfl rfl) (pmk_own PySem.F.excBase_ValueError T.xN T.gN T.kN (raises_own T.bN T.tN) rfl))) pss_nil)
    (pss_one (ps_ret (pv 3)))))))), ?_⟩
  refine ⟨_, rfl, z, rfl, hz, _, _, rfl, rfl, _, rfl, ?_⟩
  unfold readM at k1 k2
  by_cases c1 : 400 < z.length
  · rw [if_pos c1] at k2
    rw [show decide ((400 : Int) < ((z.length : Nat) : Int)) = true from decide_eq_true (by omega)]
    exact iteT (k2 rfl H (Same.refl H))
  rw [if_neg c1] at k1 k2
  rw [show decide ((400 : Int) < ((z.length : Nat) : Int)) = false from decide_eq_false (by omega)]
  refine iteF ⟨_, rfl, z, rfl, by omega, fun ws ew l H1 s1 hl e1 => ?_, fun ew H1 s1 => ?_⟩
  · rw [ew] at k1 k2
    dsimp only at k1 k2
    have B := lexM_ok ew
    refine ⟨_, rfl, l, _, rfl, .inl (SqL.of e1), _, _, rfl, rfl, _, rfl, ?_⟩
    rw [List.length_map]
    by_cases c2 : 40 < ws.length
    · rw [if_pos c2] at k2
      rw [show decide ((40 : Int) < ((ws.length : Nat) : Int)) = true from decide_eq_true (by omega)]
      exact iteT (k2 rfl H1 s1)
    rw [if_neg c2] at k1 k2
    rw [show decide ((40 : Int) < ((ws.length : Nat) : Int)) = false from decide_eq_false (by omega)]
    refine iteF ⟨_, rfl, fun p dx np ndx nex => ?_⟩
    refine ⟨p, dx, l, rfl, upd_same, fun H2 hp2 b2 => ⟨rfl, ?_⟩⟩
    have s2 : Same H1 H2 := fun b o e => b2 b o (by rw [upd_ne (ne_of_none e np), upd_ne (ne_of_none e ndx)]; exact e) (ne_of_none e np)
    have R2 : RdAt C p l ws 0 H2 := ⟨⟨dx, hp2⟩, s2 _ _ e1, by omega⟩
    have W : WsOk ws := ⟨fun w hw => by have := B.1 w hw; omega⟩
    have bs : ∀ {H3 : Hp}, But p H2 H3 → Same H H3 := fun b3 b o e => b3 b o (s2 b o (s1 b o e)) (ne_of_none (s1 b o e) np)
    refine ⟨_, rfl, p, l, ws, 0, rfl, R2, W, ?_⟩
    cases e3 : levelM ws (pieceM ws 3) kinds 0 with
    | none =>
      rw [e3] at k2
      exact fun H3 b3 => k2 rfl H3 (bs b3)
    | some r =>
      obtain ⟨t, j⟩ := r
      rw [e3] at k1 k2
      dsimp only at k1 k2
      intro v H3 b3 R3 tv
      obtain ⟨dx3, hp3⟩ := R3.ob
      refine ⟨_, rfl, p, dx3, _, rfl, hp3, rflds_no _ _ (by decide +kernel) (by decide +kernel), p, l, ws, j, rfl, R3, ?_⟩
      refine ⟨rfl, _, rfl, ?_⟩
      rw [str_dec]
      by_cases c3 : wd ws j = Str.empty
      · rw [if_pos c3] at k1
        rw [show decide (wd ws j = ("" : Str)) = true from decide_eq_true c3]
        exact iteF ⟨_, rfl, k1 t rfl v H3 (bs b3) tv⟩
      · rw [if_neg c3] at k2
        rw [show decide (wd ws j = ("" : Str)) = false from decide_eq_false c3]
        exact iteT (k2 rfl H3 (bs b3))
  · rw [ew] at k2
    exact k2 rfl H1 s1
end
end Aw

namespace Aw
open PySem L2
/-! ### the law's own helpers -/
def spCell (K : PySem.W.Frag) : Sp := fun vs H Q _ => ∃ (a : Addr) (ns : List Int) (k : Nat), vs = [.ref a, .int k] ∧ SqL K H a (ns.map V.int) ∧ ns.length ≤ 63 ∧ ∀ i : Int, Q (.int i) H
def spDice : Sp := fun vs H Q _ => ∃ c : Int, vs = [.int c] ∧ ∀ (d : Addr) (H' : Hp), Same H H' → H d = none → DiceAt H' d → Q (.ref d) H'
def spRoll : Sp := fun vs H Q _ => ∃ (d : Addr) (m : Int), vs = [.ref d, .int m] ∧ DiceAt H d ∧ 0 < m ∧ m < 1000000 ∧ ∀ (r : Int) (H' : Hp), 0 ≤ r → r < m → But d H H' → DiceAt H' d → Q (.int r) H'
def spNames : Sp := fun vs H Q _ => ∃ (c m : Int), vs = [.int c, .int m] ∧ 0 ≤ m ∧ m ≤ 100 ∧ ∀ (l : Addr) (H' : Hp) (nms : List Str), Same H H' → H l = none → H' l = some (.lst (nms.map V.str)) → (nms.length : Int) = m → (∀ s ∈ nms, NameOk s) → Q (.ref l) H'
structure TxtL (K : PySem.W.Frag) (mg : Str → Option Value) : Prop where
  len : mg "len" = none
  int : mg "int" = none
  range : mg "range" = none
  str : mg "str" = none
section
variable {P : Program} {w : World} {K : PySem.W.Frag} {mg : Str → Option Value} {base : Heap} {f : Addr} {fd : FuncData}
theorem ok_cell (F : Fun K "_law_cell_at" "_law_cell_at" s_law_cell_at f fd) (T : TxtL K mg) : FnOk P w K mg base CX0 1 f fd ["_law_script", "_law_k"] (spCell K) := by
  refine F.ok sc_law_cell_at (fun vs H Q E h => ?_) (fun cdv A outer s H vs Q E hr h => ?_)
  · obtain ⟨a, ns, k, rfl, _⟩ := h
    rfl
  obtain ⟨a, ns, k, rfl, hS, h63, q⟩ := h
  refine ⟨_, pss_cons (ps_if (pt_cmpR op_lt (pv 1) (pe_callB call_len_seq (by rfl) T.len PySem.boot_len (pa_cons (pv 0) pa_nil)) (nomark _)) (pss_one (ps_ret (pe_ix ix_list (pv 0) (pv 1) (fun _ _ => rfl)))) pss_nil)
    (pss_one (ps_ret pe_int)), ?_⟩
  refine ⟨_, rfl, _, rfl, a, _, rfl, .inl hS, _, _, rfl, rfl, _, rfl, ?_⟩
  refine ite2 (fun c => ?_) (fun c => ?_)
  · have c' : (k : Int) < (((ns.map V.int).length : Nat) : Int) := of_decide_eq_true c
    rw [List.length_map] at c'
    have hk : k < ns.length := by omega
    refine ⟨_, rfl, _, rfl, a, _, _, _, rfl, rfl, hS, atI_nat (v := .int ns[k]) ?_, q _⟩
    rw [List.getElem?_map, List.getElem?_eq_getElem hk]
    rfl
  · exact q 0
theorem ok_dice (F : Fun K "_law_dice" "_law_dice" s_law_dice f fd) (T : TxtL K mg) : FnOk P w K mg base CX0 1 f fd ["_law_cell"] spDice := by
  refine F.ok sc_law_dice (fun vs H Q E h => ?_) (fun cdv A outer s H vs Q E hr h => ?_)
  · obtain ⟨c, rfl, _⟩ := h
    rfl
  obtain ⟨c, rfl, q⟩ := h
  refine ⟨_, pss_one (ps_ret (pe_lst (pa_cons (pe_op op_mod (pv 0) pe_int) (pa_cons (pe_op op_mul (pe_op op_fdivW (pv 0) pe_int) (pe_callTy call_int1 (by rfl) T.int (by decide +kernel) (pa_cons (pe_cmpR op_ge (pv 0) (pe_op op_pow pe_int pe_int) (nomark _)) pa_nil))) pa_nil)))), ?_⟩
  refine ⟨_, rfl, _, _, rfl, rfl, (by show (0 : Int) < 2147483647; decide), _, rfl, _, _, rfl, rfl, wide_div (b := 40) (by decide) (by decide) (by decide) (by decide), ?_⟩
  refine ⟨_, rfl, _, _, rfl, rfl, ⟨by decide, by decide, by decide⟩, _, _, rfl, rfl, .inr ⟨_, rfl, ?_⟩⟩
  have hb : (0 : Int) ≤ (if decide ((10 : Int) ^ (Int.toNat 18) ≤ c) = true then 1 else 0) ∧ (if decide ((10 : Int) ^ (Int.toNat 18) ≤ c) = true then (1 : Int) else 0) < 2 := by split <;> decide
  refine ⟨_, _, rfl, rfl, .inr ⟨by omega, by omega⟩, (by show 2 ≤ sizeLine; decide), fun d hd => ?_⟩
  refine q d _ (same_new hd _) hd ⟨_, _, upd_same, Int.emod_nonneg _ (by decide), Int.emod_lt_of_pos _ (by decide), ?_⟩
  by_cases hc : (10 : Int) ^ (Int.toNat 18) ≤ c
  · rw [decide_eq_true hc, if_pos rfl, Int.mul_one]
    have hc0 : 0 ≤ c := Int.le_trans (by decide) hc
    exact Int.ediv_nonneg hc0 (by decide)
  · rw [decide_eq_false hc, if_neg Bool.false_ne_true, Int.mul_zero]
    exact Int.le_refl 0
theorem ok_roll (F : Fun K "_law_roll" "_law_roll" s_law_roll f fd) : FnOk P w K mg base CX0 1 f fd ["_law_dice_here", "_law_most"] spRoll := by
  refine F.ok sc_law_roll (fun vs H Q E h => ?_) (fun cdv A outer s H vs Q E hr h => ?_)
  · obtain ⟨d, m, rfl, _⟩ := h
    rfl
  obtain ⟨d, m, rfl, ⟨x, y, hd, hx0, hx1, hy0⟩, hm0, hm1, q⟩ := h
  refine ⟨_, pss_cons (ps_if (pt_cmpR op_gt (pe_ix ix_list (pv 0) pe_int (fun _ _ => rfl)) pe_int (nomark _))
      (pss_cons (ps_set (i := 2) sc_law_roll.nd rfl (.inl rfl) (pe_op op_mod (pe_ix ix_list (pv 0) pe_int (fun _ _ => rfl)) (pv 1)))
      (pss_cons (ps_asg (pe_op op_fdiv (pe_ix ix_list (pv 0) pe_int (fun _ _ => rfl)) (pv 1)) (pg_sub (pv 0) pe_int set_list))
      (pss_one (ps_ret (pv 2))))) pss_nil)
    (pss_cons (ps_asg (pe_op op_mod (pe_op op_add (pe_op op_mul (pe_ix ix_list (pv 0) pe_int (fun _ _ => rfl)) pe_int) pe_int) pe_int) (pg_sub (pv 0) pe_int set_list))
    (pss_one (ps_ret (pe_op op_mod (pe_op op_fdiv (pe_ix ix_list (pv 0) pe_int (fun _ _ => rfl)) pe_int) (pv 1))))), ?_⟩
  have at1 : atI ([.int x, .int y] : List V) 1 = some (.int y) := rfl
  have at0 : atI ([.int x, .int y] : List V) 0 = some (.int x) := rfl
  refine ⟨_, rfl, d, _, _, _, rfl, rfl, SqL.of hd, at1, _, _, rfl, rfl, _, rfl, ?_⟩
  refine ite2 (fun c => ?_) (fun c => ?_)
  · refine ⟨_, rfl, d, _, _, _, rfl, rfl, SqL.of hd, at1, _, rfl, _, _, rfl, rfl, hm0, ?_⟩
    refine ⟨_, rfl, d, _, _, _, rfl, rfl, SqL.of hd, at1, _, rfl, _, _, rfl, rfl, ⟨hm0, by omega⟩, ?_⟩
    refine ⟨_, rfl, d, _, _, 1, rfl, rfl, hd, rfl, ?_⟩
    refine ⟨_, rfl, ?_⟩
    exact q _ _ (Int.emod_nonneg _ (by omega)) (Int.emod_lt_of_pos _ hm0) (But.upd _) ⟨x, y / m, upd_same, hx0, hx1, Int.ediv_nonneg hy0 (by omega)⟩
  · refine ⟨_, rfl, d, _, _, _, rfl, rfl, SqL.of hd, at0, _, _, rfl, rfl, .inl ⟨by omega, by omega⟩, _, _, rfl, rfl, _, _, rfl, rfl, (by show (0 : Int) < 2147483647; decide), ?_⟩
    refine ⟨_, rfl, d, _, _, 0, rfl, rfl, hd, rfl, ?_⟩
    refine ⟨_, rfl, d, _, _, .int ((x * 48271 + 11) % 2147483647), rfl, rfl, SqL.of upd_same, rfl, _, _, rfl, rfl, ⟨by decide, by decide⟩, _, rfl, _, _, rfl, rfl, hm0, ?_⟩
    exact q _ _ (Int.emod_nonneg _ (by omega)) (Int.emod_lt_of_pos _ hm0) (But.upd _) ⟨_, y, upd_same, Int.emod_nonneg _ (by decide), Int.emod_lt_of_pos _ (by decide), hy0⟩
end
end Aw

namespace Aw
open PySem L2
def spTree (K : PySem.W.Frag) (d : Nat) : Sp := fun vs H Q _ => ∃ (dd nl : Addr) (nms : List Str), vs = [.ref dd, .ref nl, .int (d : Nat)] ∧ DiceAt H dd ∧ H nl = some (.lst (nms.map V.str)) ∧ 0 < nms.length ∧ nms.length ≤ 100 ∧
  ∀ v H' t, But dd H H' → DiceAt H' dd → LA (fresh H H') v t → TOk (· ∈ nms) d t → Q v H'
theorem nl_keep {H H' : Hp} {dd nl : Addr} {nms : List Str} (h : DiceAt H dd) (e : H nl = some (.lst (nms.map V.str))) (h0 : 0 < nms.length) (b : But dd H H') : H' nl = some (.lst (nms.map V.str)) := by
  obtain ⟨x, y, ed, _⟩ := h
  refine b _ _ e (ne_of e ed ?_)
  cases nms with
  | nil => exact absurd h0 (Nat.lt_irrefl 0)
  | cons s r => intro z; cases z
theorem at_strs {nms : List Str} {n : Int} (n0 : 0 ≤ n) (n1 : n < (nms.length : Int)) : ∃ s, s ∈ nms ∧ atI (nms.map V.str) n = some (.str s) := by
  have hk : n.toNat < nms.length := by omega
  refine ⟨nms[n.toNat], List.getElem_mem hk, ?_⟩
  have q : atI (nms.map V.str) ((n.toNat : Nat) : Int) = some (.str nms[n.toNat]) := atI_nat (by rw [List.getElem?_map, List.getElem?_eq_getElem hk]; rfl)
  rwa [show ((n.toNat : Nat) : Int) = n by omega] at q
section
variable {P : Program} {w : World} {K : PySem.W.Frag} {mg : Str → Option Value} {base : Heap} {f : Addr} {fd : FuncData}
theorem ok_tree0 {g : Addr} {gd : FuncData} (F : Fun K "_law_tree" "_law_tree" s_law_tree f fd) (T : TxtL K mg) (GR : FnOk P w K mg base CX0 1 g gd ["_law_dice_here", "_law_most"] spRoll) (bR : Binds K gd ["_law_dice_here", "_law_most"] []) (kR : PySem.W.keepIn K (.ref g) = true) (mR : mg "_law_roll" = some (.ref g)) :
    FnOk P w K mg base CX0 2 f fd ["_law_dice_here", "_law_names_here", "_law_deep"] (spTree K 0) := by
  refine F.ok sc_law_tree (fun vs H Q E h => ?_) (fun cdv A outer s H vs Q E hr h => ?_)
  · obtain ⟨dd, nl, nms, rfl, _⟩ := h
    rfl
  obtain ⟨dd, nl, nms, rfl, hD, hn, h0, h100, q⟩ := h
  have nd := sc_law_tree.nd
  refine ⟨_, pss_cons (ps_set (i := 3) nd rfl (.inl rfl) (pe_call GR hr rfl mR kR bR .nil pass0 (pa_cons (pv 0) (pa_cons pe_int pa_nil))))
    (pss_cons (ps_if (PW.pt (pw_or (pt_cmpR op_eq (pv 2) pe_int (nomark _)) (pw_or1 (pt_cmpR op_lt (pv 3) pe_int (nomark _)))))
      (pss_cons (ps_if (pt_cmpR op_eq (pe_call GR hr rfl mR kR bR .nil pass0 (pa_cons (pv 0) (pa_cons pe_int pa_nil))) pe_int (nomark _))
        (pss_one (ps_ret (pe_tup (pa_cons pe_str (pa_cons (pe_call GR hr rfl mR kR bR .nil pass0 (pa_cons (pv 0) (pa_cons pe_int pa_nil))) pa_nil))))) pss_nil)
      (pss_one (ps_ret (pe_tup (pa_cons pe_str (pa_cons (pe_ix ix_list (pv 1) (pe_call GR hr rfl mR kR bR .nil pass0 (pa_cons (pv 0) (pa_cons (pe_callB call_len_seq (by rfl) T.len PySem.boot_len (pa_cons (pv 1) pa_nil)) pa_nil))) (fun _ _ => rfl)) pa_nil)))))) pss_nil)
    (pss_cons ps_never (pss_cons ps_never (pss_cons ps_never (pss_one ps_never))))), ?_⟩
  refine ⟨_, rfl, dd, 10, rfl, hD, by decide, by decide, fun r H1 _ _ b1 D1 => ?_⟩
  refine ⟨_, rfl, rfl, _, rfl, iteT ?_⟩
  have hn1 := nl_keep hD hn h0 b1
  refine ⟨_, rfl, dd, 3, rfl, D1, by decide, by decide, fun r2 H2 _ _ b2 D2 => ?_⟩
  have hn2 := nl_keep D1 hn1 h0 b2
  refine ⟨rfl, _, rfl, ?_⟩
  refine ite2 (fun _ => ?_) (fun _ => ?_)
  · refine ⟨_, rfl, dd, 31, rfl, D2, by decide, by decide, fun n H3 n0 n1 b3 D3 => ?_⟩
    refine ⟨(by show 2 ≤ sizeLine; decide), fun p hp => ?_⟩
    exact q _ _ (.num n) (((b1.trans b2).trans b3).trans (.of_same (same_new hp _))) (D3.mono (same_new hp _)) (.num (fresh_at (free_of D3 ((b1.trans b2).trans b3) hp) upd_same)) (.mkNum ⟨n0, by omega⟩)
  · refine ⟨_, rfl, _, rfl, _, rfl, nl, _, rfl, .inl (SqL.of hn2), dd, _, rfl, D2, ?_, ?_, fun n H3 n0 n1 b3 D3 => ?_⟩
    · rw [List.length_map]; omega
    · rw [List.length_map]; omega
    · rw [List.length_map] at n1
      have hn3 := nl_keep D2 hn2 h0 b3
      obtain ⟨z, hz, ez⟩ := at_strs n0 n1
      refine ⟨nl, _, n, .str z, rfl, rfl, SqL.of hn3, ez, (by show 2 ≤ sizeLine; decide), fun p hp => ?_⟩
      exact q _ _ (.name z) (((b1.trans b2).trans b3).trans (.of_same (same_new hp _))) (D3.mono (same_new hp _)) (.name (fresh_at (free_of D3 ((b1.trans b2).trans b3) hp) upd_same)) (.mkName hz)
theorem kdOf {r : Int} (h0 : 0 ≤ r) (h1 : r < 3) : ∃ k : Kd, atI ([.str "sum", .str "least", .str "most"] : List V) r = some (.str k.nm) := by
  rcases (by omega : r = 0 ∨ r = 1 ∨ r = 2) with e | e | e
  · subst e; exact ⟨.sum, rfl⟩
  · subst e; exact ⟨.least, rfl⟩
  · subst e; exact ⟨.most, rfl⟩
theorem ok_treeS {d k : Nat} (hk : 1 ≤ k) {g : Addr} {gd : FuncData} (F : Fun K "_law_tree" "_law_tree" s_law_tree f fd) (T : TxtL K mg) (GR : FnOk P w K mg base CX0 1 g gd ["_law_dice_here", "_law_most"] spRoll) (bR : Binds K gd ["_law_dice_here", "_law_most"] []) (kR : PySem.W.keepIn K (.ref g) = true) (mR : mg "_law_roll" = some (.ref g))
    (GT : FnOk P w K mg base CX0 k f fd ["_law_dice_here", "_law_names_here", "_law_deep"] (spTree K d)) (bT : Binds K fd ["_law_dice_here", "_law_names_here", "_law_deep"] []) (mT : mg "_law_tree" = some (.ref f)) :
    FnOk P w K mg base CX0 (k + 1) f fd ["_law_dice_here", "_law_names_here", "_law_deep"] (spTree K (d + 1)) := by
  refine F.ok sc_law_tree (fun vs H Q E h => ?_) (fun cdv A outer s H vs Q E hr0 h => ?_)
  · obtain ⟨dd, nl, nms, rfl, _⟩ := h
    rfl
  obtain ⟨dd, nl, nms, rfl, hD, hn, h0, h100, q⟩ := h
  have nd := sc_law_tree.nd
  have hr : Room 1 _ := hr0.mono (by omega)
  have GTe : FnOk P w K mg base CX0 k f fd ["_law_dice_here", "_law_names_here", "_law_deep"] (spTree K d) := GT
  refine ⟨_, pss_cons (ps_set (i := 3) nd rfl (.inl rfl) (pe_call GR hr rfl mR kR bR .nil pass0 (pa_cons (pv 0) (pa_cons pe_int pa_nil))))
    (pss_cons (ps_if (PW.pt (pw_or (pt_cmpR op_eq (pv 2) pe_int (nomark _)) (pw_or1 (pt_cmpR op_lt (pv 3) pe_int (nomark _)))))
      (pss_cons (ps_if (pt_cmpR op_eq (pe_call GR hr rfl mR kR bR .nil pass0 (pa_cons (pv 0) (pa_cons pe_int pa_nil))) pe_int (nomark _))
        (pss_one (ps_ret (pe_tup (pa_cons pe_str (pa_cons (pe_call GR hr rfl mR kR bR .nil pass0 (pa_cons (pv 0) (pa_cons pe_int pa_nil))) pa_nil))))) pss_nil)
      (pss_one (ps_ret (pe_tup (pa_cons pe_str (pa_cons (pe_ix ix_list (pv 1) (pe_call GR hr rfl mR kR bR .nil pass0 (pa_cons (pv 0) (pa_cons (pe_callB call_len_seq (by rfl) T.len PySem.boot_len (pa_cons (pv 1) pa_nil)) pa_nil))) (fun _ _ => rfl)) pa_nil)))))) pss_nil)
    (pss_cons (ps_if (pt_cmpR op_lt (pv 3) pe_int (nomark _))
      (pss_cons (ps_set (i := 4) nd rfl (.inl rfl) (pe_ix ix_list (pv 1) (pe_call GR hr rfl mR kR bR .nil pass0 (pa_cons (pv 0) (pa_cons (pe_callB call_len_seq (by rfl) T.len PySem.boot_len (pa_cons (pv 1) pa_nil)) pa_nil))) (fun _ _ => rfl)))
      (pss_one (ps_ret (pe_tup (pa_cons pe_str (pa_cons (pv 4) (pa_cons (pe_op op_add pe_int (pe_call GR hr rfl mR kR bR .nil pass0 (pa_cons (pv 0) (pa_cons pe_int pa_nil)))) (pa_cons
        (pe_call GTe hr0 rfl mT F.kp bT .nil pass0 (pa_cons (pv 0) (pa_cons (pv 1) (pa_cons (pe_op op_sub (pv 2) pe_int) pa_nil)))) pa_nil)))))))) pss_nil)
    (pss_cons (ps_set (i := 5) nd rfl (.inl rfl) (pe_ix ix_list (pe_lst (pa_cons pe_str (pa_cons pe_str (pa_cons pe_str pa_nil)))) (pe_call GR hr rfl mR kR bR .nil pass0 (pa_cons (pv 0) (pa_cons pe_int pa_nil))) (fun _ _ => rfl)))
    (pss_cons (ps_set (i := 6) nd rfl (.inl rfl) (pe_op op_add pe_int (pe_call GR hr rfl mR kR bR .nil pass0 (pa_cons (pv 0) (pa_cons pe_int pa_nil)))))
    (pss_one (ps_ret (pe_tup (pa_cons (pv 5) (pa_cons
      (pe_lc (own := [("_law_k", 7)]) (g := gName 7) rfl nd (pi_range1 rfl T.range (pa_cons (pv 6) pa_nil)) (blkOk_by (N := ["_law_dice_here", "_law_names_here", "_law_deep", "_law_way", "_law_name", "_law_kind", "_law_many", "_law_k"]) (sc := defScope s_law_tree) (by decide +kernel))
        (fun _ _ _ _ _ => pg_name (i := 7) nd rfl (.inl rfl)) (fun _ _ _ _ _ => pts_nil)
        (fun _ _ _ _ _ => pe_call GTe hr0 rfl mT F.kp bT .nil pass0 (pa_cons (pv 0) (pa_cons (pv 1) (pa_cons (pe_op op_sub (pv 2) pe_int) pa_nil))))) pa_nil))))))))), ?_⟩
  refine ⟨_, rfl, dd, 10, rfl, hD, by decide, by decide, fun r H1 _ _ b1 D1 => ?_⟩
  refine ⟨_, rfl, rfl, _, rfl, ?_⟩
  rw [show decide (V.int ((d + 1 : Nat) : Int) = V.int 0) = false from decide_eq_false (by intro z; have := V.int.inj z; omega)]
  refine iteF ⟨_, rfl, _, _, rfl, rfl, _, rfl, ?_⟩
  refine ite2 (fun _ => ?_) (fun _ => ?_)
  · have hn1 := nl_keep hD hn h0 b1
    refine ⟨_, rfl, dd, 3, rfl, D1, by decide, by decide, fun r2 H2 _ _ b2 D2 => ?_⟩
    have hn2 := nl_keep D1 hn1 h0 b2
    refine ⟨rfl, _, rfl, ?_⟩
    refine ite2 (fun _ => ?_) (fun _ => ?_)
    · refine ⟨_, rfl, dd, 31, rfl, D2, by decide, by decide, fun n H3 n0 n1 b3 D3 => ?_⟩
      refine ⟨(by show 2 ≤ sizeLine; decide), fun p hp => ?_⟩
      exact q _ _ (.num n) (((b1.trans b2).trans b3).trans (.of_same (same_new hp _))) (D3.mono (same_new hp _)) (.num (fresh_at (free_of D3 ((b1.trans b2).trans b3) hp) upd_same)) (.mkNum ⟨n0, by omega⟩)
    · refine ⟨_, rfl, _, rfl, _, rfl, nl, _, rfl, .inl (SqL.of hn2), dd, _, rfl, D2, ?_, ?_, fun n H3 n0 n1 b3 D3 => ?_⟩
      · rw [List.length_map]; omega
      · rw [List.length_map]; omega
      · rw [List.length_map] at n1
        have hn3 := nl_keep D2 hn2 h0 b3
        obtain ⟨z, hz, ez⟩ := at_strs n0 n1
        refine ⟨nl, _, n, .str z, rfl, rfl, SqL.of hn3, ez, (by show 2 ≤ sizeLine; decide), fun p hp => ?_⟩
        exact q _ _ (.name z) (((b1.trans b2).trans b3).trans (.of_same (same_new hp _))) (D3.mono (same_new hp _)) (.name (fresh_at (free_of D3 ((b1.trans b2).trans b3) hp) upd_same)) (.mkName hz)
  · have hn1 := nl_keep hD hn h0 b1
    have hd1 : ((d + 1 : Nat) : Int) - 1 = (d : Nat) := by omega
    refine ⟨_, rfl, _, _, rfl, rfl, _, rfl, ?_⟩
    refine ite2 (fun _ => ?_) (fun _ => ?_)
    · refine ⟨_, rfl, _, rfl, _, rfl, nl, _, rfl, .inl (SqL.of hn1), dd, _, rfl, D1, ?_, ?_, fun n H2 n0 n1 b2 D2 => ?_⟩
      · rw [List.length_map]; omega
      · rw [List.length_map]; omega
      rw [List.length_map] at n1
      have hn2 := nl_keep D1 hn1 h0 b2
      obtain ⟨z, hz, ez⟩ := at_strs n0 n1
      refine ⟨nl, _, n, .str z, rfl, rfl, SqL.of hn2, ez, ?_⟩
      refine ⟨_, rfl, _, rfl, dd, 30, rfl, D2, by decide, by decide, fun b H3 b0 b1' b3 D3 => ?_⟩
      have hn3 := nl_keep D2 hn2 h0 b3
      have bb := (b1.trans b2).trans b3
      refine ⟨_, _, rfl, rfl, _, rfl, _, rfl, _, rfl, _, _, rfl, rfl, dd, nl, nms, (by rw [← hd1]; rfl), D3, hn3, h0, h100, fun v H4 t b4 D4 lv tk => ?_⟩
      refine ⟨(by show 4 ≤ sizeLine; decide), fun p hp => ?_⟩
      have bb4 := bb.trans b4
      have s5 := same_new hp (.tup [.str "gate", .str z, .int (1 + b), v])
      exact q _ _ (.gate z (1 + b) t) (bb4.trans (.of_same s5)) (D4.mono s5) (.gate (fresh_at (free_of D4 bb4 hp) upd_same) (lv.mono (.of_same (fresh_step D3 bb s5)))) ⟨hz, by omega, by omega, tk⟩
    · refine ⟨(by show 3 ≤ sizeLine; decide), fun a hna => ?_⟩
      have s1 := same_new hna (.lst [.str "sum", .str "least", .str "most"])
      refine ⟨_, rfl, dd, 3, rfl, D1.mono s1, by decide, by decide, fun r2 H2 r20 r21 b2 D2 => ?_⟩
      have nad : a ≠ dd := by
        obtain ⟨x, y, e, _⟩ := D1
        exact (ne_of_none e hna).symm
      obtain ⟨kd, ek⟩ := kdOf r20 r21
      refine ⟨a, _, r2, .str kd.nm, rfl, rfl, SqL.of (b2 _ _ upd_same nad), ek, ?_⟩
      have bb2 := (b1.trans (.of_same s1)).trans b2
      refine ⟨_, rfl, dd, 2, rfl, D2, by decide, by decide, fun r3 H3 r30 r31 b3 D3 => ?_⟩
      have bb3 := bb2.trans b3
      refine ⟨_, _, rfl, rfl, ?_⟩
      refine ⟨_, rfl, _, rfl, 2 + r3, rfl, by omega, by omega, fun D hD' => ?_⟩
      have nDd : D ≠ dd := by
        obtain ⟨x, y, e, _⟩ := D3
        exact (ne_of_none e hD').symm
      have hDH : H D = none := free_of D3 bb3 hD'
      refine lc_range (lo := 0) (n := (2 + r3).toNat) (fun i H' => ∃ vs ts, But dd H H' ∧ DiceAt H' dd ∧ H' D = some (.lst vs) ∧ LAs (hide D (fresh H H')) vs ts ∧ ts.length = i ∧ ∀ t ∈ ts, TOk (· ∈ nms) d t) ?_ ?_ ?_
      · exact ⟨[], [], bb3.trans (.of_same (same_new hD' _)), D3.mono (same_new hD' _), upd_same, .nil, rfl, fun t ht => by cases ht⟩
      · rintro i H4 hi ⟨vs, ts, b4, D4, e4, l4, hl, tk⟩
        refine ⟨rfl, ?_⟩
        refine ⟨_, rfl, _, rfl, _, rfl, _, _, rfl, rfl, dd, nl, nms, (by rw [← hd1]; rfl), D4, nl_keep hD hn h0 b4, h0, h100, fun v H5 t b5 D5 lv tk5 => ?_⟩
        have hlen := l4.length
        have e5 := b5 _ _ e4 nDd
        refine ⟨vs, e5, small1000 (by omega), vs ++ [v], ts ++ [t], ?_, ?_, upd_same, ?_, ?_, ?_⟩
        · intro b o hb hbd
          rw [upd_ne (ne_of_none hb hDH)]
          exact b5 b o (b4 b o hb hbd) hbd
        · obtain ⟨x, y, e, z⟩ := D5
          exact ⟨x, y, by rw [upd_ne nDd.symm]; exact e, z⟩
        · refine LAs.snoc (lv.mono (.of_same fun b o hb => ?_)) (l4.mono (.of_same fun b o hb => ?_))
          · obtain ⟨z1, z2⟩ := fresh_inv hb
            have nb : b ≠ D := by intro z; subst z; rw [e4] at z1; cases z1
            unfold hide
            rw [if_neg nb]
            exact fresh_at (free_of D4 b4 z1) (by rw [upd_ne nb]; exact z2)
          · unfold hide at hb ⊢
            by_cases nb : b = D
            · rw [if_pos nb] at hb; cases hb
            · rw [if_neg nb] at hb ⊢
              obtain ⟨z1, z2⟩ := fresh_inv hb
              have nbd : b ≠ dd := by
                intro z; subst z
                obtain ⟨x, y, e, _⟩ := hD
                rw [z1] at e; cases e
              exact fresh_at z1 (by rw [upd_ne nb]; exact b5 b o z2 nbd)
        · rw [List.length_append, List.length_singleton, hl]
        · intro t' ht'
          rcases List.mem_append.mp ht' with z | z
          · exact tk t' z
          · rw [List.mem_singleton.mp z]; exact tk5
      · rintro H4 ⟨vs, ts, b4, D4, e4, l4, hl, tk⟩
        refine ⟨(by show 2 ≤ sizeLine; decide), fun p hp => ?_⟩
        have s5 := same_new hp (.tup [.str kd.nm, .ref D])
        refine q _ _ (.join kd ts) (b4.trans (.of_same s5)) (D4.mono s5) (.join (fresh_at (free_of D4 b4 hp) upd_same) (fresh_at hDH (s5 _ _ e4)) (by omega) (l4.mono (.of_same fun b o hb => ?_))) ⟨by omega, by omega, tk⟩
        unfold hide at hb
        by_cases nb : b = D
        · rw [if_pos nb] at hb; cases hb
        · rw [if_neg nb] at hb
          obtain ⟨z1, z2⟩ := fresh_inv hb
          exact fresh_at z1 (s5 b o z2)
end
end Aw

namespace Aw
open PySem L2
section
variable {P : Program} {w : World} {K : PySem.W.Frag} {mg : Str → Option Value} {base : Heap} {f : Addr} {fd : FuncData}
theorem let_at {n : Int} (h0 : 0 ≤ n) (h1 : n < 26) : ∃ c, c ∈ LET ∧ atI (("abcdefghijklmnopqrstuvwxyz" : Str)).cps.toList n = some c := by
  have hk : n.toNat < LET.length := by
    have e : LET.length = 26 := by decide +kernel
    omega
  refine ⟨LET[n.toNat], List.getElem_mem hk, ?_⟩
  have q : atI LET ((n.toNat : Nat) : Int) = some LET[n.toNat] := atI_nat (List.getElem?_eq_getElem hk)
  rwa [show ((n.toNat : Nat) : Int) = n by omega] at q
theorem nameOk_of {z : Str} (h1 : 1 ≤ z.length) (h6 : z.length ≤ 6) (h : ∀ c ∈ z.cps.toList, c ∈ LET) : NameOk z := by
  unfold NameOk nameM
  rw [decide_eq_true (show 1 ≤ z.length ∧ z.length ≤ 6 from ⟨h1, h6⟩), Bool.true_and, List.all_eq_true]
  exact fun c hc => decide_eq_true (h c hc)
theorem mem_app1 {z : Str} {c : Nat} (h : ∀ x ∈ z.cps.toList, x ∈ LET) (hc : c ∈ LET) : ∀ x ∈ (z ++ sg1 c).cps.toList, x ∈ LET := by
  intro x hx
  have e : (z ++ sg1 c).cps.toList = z.cps.toList ++ [c] := by
    show (z.cps ++ #[c]).toList = _
    rw [Array.toList_append]
  rw [e] at hx
  rcases List.mem_append.mp hx with q | q
  · exact h x q
  · rw [List.mem_singleton.mp q]; exact hc
theorem ok_names (F : Fun K "_law_names" "_law_names" s_law_names f fd) (T : TxtL K mg) : FnOk P w K mg base CX0 1 f fd ["_law_cell", "_law_many"] spNames := by
  refine F.ok sc_law_names (fun vs H Q E h => ?_) (fun cdv A outer s H vs Q E hr h => ?_)
  · obtain ⟨c, m, rfl, _⟩ := h
    rfl
  obtain ⟨c, m, rfl, m0, m1, q⟩ := h
  have nd := sc_law_names.nd
  refine ⟨_, pss_cons (ps_set (i := 2) nd rfl (.inl rfl) pe_str)
    (pss_cons (ps_set (i := 3) nd rfl (.inl rfl) (pe_op op_add pe_int (pe_op op_mod (pv 0) pe_int)))
    (pss_cons (ps_set (i := 4) nd rfl (.inl rfl) (pe_op op_mod (pe_op op_fdiv (pv 0) pe_int) (pv 3)))
    (pss_cons (ps_set (i := 5) nd rfl (.inl rfl) (pe_lst pa_nil))
    (pss_cons (ps_for PassesOwn.never rfl (pi_range1 rfl T.range (pa_cons (pv 1) pa_nil)) (pg_name (i := 6) nd rfl (.inl rfl))
      (pss_cons (ps_set (i := 7) nd rfl (.inl rfl) pe_str)
      (pss_cons (ps_for PassesOwn.never rfl (pi_range1 rfl T.range (pa_cons (pv 3) pa_nil)) (pg_name (i := 8) nd rfl (.inl rfl))
        (pss_cons (ps_set (i := 9) nd rfl (.inl rfl) (pe_op op_add (pe_op op_mod (pe_op op_fdiv (pv 0) pe_int) pe_int) (pe_op op_mul pe_int (pv 8))))
        (pss_cons (ps_if (pt_cmpR op_eq (pv 8) (pv 4) (nomark _)) (pss_one (ps_set (i := 9) nd rfl (.inl rfl) (pe_op op_add (pv 9) (pv 6)))) pss_nil)
        (pss_one (ps_set (i := 7) nd rfl (.inl rfl) (pe_op op_add_str (pv 7) (pe_ix ix_str (pv 2) (pe_op op_mod (pv 9) pe_int) (fun _ _ => rfl))))))))
      (pss_one (ps_expr (pe_bm PySem.F.plainAttrs_list PySem.F.slot_list_append PySem.F.type_list_append mt_append (pv 5) (pa_cons (pv 7) pa_nil)))))))
    (pss_one (ps_ret (pv 5))))))), ?_⟩
  have hs0 : 0 ≤ c % 6 := Int.emod_nonneg _ (by decide)
  have hs1 : c % 6 < 6 := Int.emod_lt_of_pos _ (by decide)
  refine ⟨_, rfl, _, _, rfl, rfl, (by show (0 : Int) < 6; decide), _, _, rfl, rfl, ?_⟩
  refine ⟨_, rfl, _, _, rfl, rfl, ⟨by decide, by decide⟩, _, rfl, _, _, rfl, rfl, (by show 0 < 1 + c % 6; omega), ?_⟩
  refine ⟨(by show 0 ≤ sizeLine; decide), fun l hl => ?_⟩
  refine ⟨_, rfl, m, rfl, by omega, by omega, ?_⟩
  refine for_range (lo := 0) (n := m.toNat) (fun i σ H' => ∃ (nms : List Str) (v6 v7 v8 v9 : Option V), σ = [some (.int c), some (.int m), some (.str "abcdefghijklmnopqrstuvwxyz"), some (.int (1 + c % 6)), some (.int (c / 6 % (1 + c % 6))), some (.ref l), v6, v7, v8, v9] ∧
    Same H H' ∧ H' l = some (.lst (nms.map V.str)) ∧ nms.length = i ∧ ∀ s ∈ nms, NameOk s) ⟨[], none, none, none, none, rfl, same_new hl _, upd_same, rfl, fun s hs => by cases hs⟩ ?_ ?_
  · rintro i σ H1 hi ⟨nms, v6, v7, v8, v9, rfl, s1, e1, hlen, hok⟩
    refine ⟨_, rfl, 1 + c % 6, rfl, by omega, by omega, ?_⟩
    refine for_range (lo := 0) (n := (1 + c % 6).toNat) (fun j σ H' => ∃ (z : Str) (v8 v9 : Option V), σ = [some (.int c), some (.int m), some (.str "abcdefghijklmnopqrstuvwxyz"), some (.int (1 + c % 6)), some (.int (c / 6 % (1 + c % 6))), some (.ref l), some (.int (0 + (i : Int))), some (.str z), v8, v9] ∧
      H' = H1 ∧ z.length = j ∧ ∀ x ∈ z.cps.toList, x ∈ LET) ⟨Str.empty, _, _, rfl, rfl, rfl, fun x hx => by cases hx⟩ ?_ ?_
    · rintro j σ H2 hj ⟨z, v8, v9, rfl, rfl, hz, hl'⟩
      refine ⟨_, rfl, _, _, rfl, rfl, ⟨by decide, by decide⟩, _, _, rfl, rfl, (by show (0 : Int) < 26; decide), _, rfl, _, _, rfl, rfl, .inl ⟨by decide, by decide⟩, _, _, rfl, rfl, ?_⟩
      refine ⟨_, rfl, _, rfl, rfl, _, rfl, ?_⟩
      have hz6 : (j : Int) < 6 := by omega
      refine ite2 (fun _ => ?_) (fun _ => ?_)
      · refine ⟨_, rfl, _, rfl, _, _, rfl, rfl, ?_⟩
        obtain ⟨ch, hc, ec⟩ := let_at (n := (c / 36 % 26 + 5 * (0 + (j : Int)) + (0 + (i : Int))) % 26) (Int.emod_nonneg _ (by decide)) (Int.emod_lt_of_pos _ (by decide))
        refine ⟨_, rfl, _, rfl, _, rfl, _, _, rfl, rfl, (by show (0 : Int) < 26; decide), _, _, ch, rfl, rfl, (by decide +kernel), ec, z, sg1 ch, rfl, rfl, big (by rw [len_sg1]; omega), ?_⟩
        exact ⟨z ++ sg1 ch, _, _, rfl, rfl, by rw [len_app, len_sg1, hz], mem_app1 hl' hc⟩
      · obtain ⟨ch, hc, ec⟩ := let_at (n := (c / 36 % 26 + 5 * (0 + (j : Int))) % 26) (Int.emod_nonneg _ (by decide)) (Int.emod_lt_of_pos _ (by decide))
        refine ⟨_, rfl, _, rfl, _, rfl, _, _, rfl, rfl, (by show (0 : Int) < 26; decide), _, _, ch, rfl, rfl, (by decide +kernel), ec, z, sg1 ch, rfl, rfl, big (by rw [len_sg1]; omega), ?_⟩
        exact ⟨z ++ sg1 ch, _, _, rfl, rfl, by rw [len_app, len_sg1, hz], mem_app1 hl' hc⟩
    · rintro σ H2 ⟨z, v8, v9, rfl, rfl, hz, hl'⟩
      refine ⟨_, rfl, .inl ⟨rfl, _, SqL.of e1⟩, _, rfl, l, _, _, rfl, rfl, e1, small1000 (by rw [List.length_map]; omega), ?_⟩
      refine ⟨nms ++ [z], _, _, _, _, rfl, same_upd s1 hl _, (by rw [upd_same, List.map_append]; rfl), by rw [List.length_append, List.length_singleton, hlen], fun s hs => ?_⟩
      rcases List.mem_append.mp hs with q | q
      · exact hok s q
      · rw [List.mem_singleton.mp q]
        exact nameOk_of (by omega) (by omega) hl'
  · rintro σ H1 ⟨nms, v6, v7, v8, v9, rfl, s1, e1, hlen, hok⟩
    exact ⟨_, rfl, q l H1 nms s1 hl e1 (by omega) hok⟩
end
end Aw

namespace Aw
open PySem L2
def spWritten (d : Nat) : Sp := fun vs H Q _ => ∃ (v : V) (t : T) (firm : Int), vs = [v, .int firm] ∧ LA H v t ∧ WF t ∧ dep t ≤ d ∧ Sz t ≤ 50000 ∧ ∀ H', Same H H' → Q (.str (wr firm t)) H'
theorem nameOk_len {s : Str} (h : NameOk s) : s.length ≤ 6 := by
  unfold NameOk nameM at h
  have := (Bool.and_eq_true_iff.mp h).1
  exact (of_decide_eq_true this).2
def rankKvs : List (Key × V) := [(Sum.inr "most", .int 1), (Sum.inr "least", .int 2), (Sum.inr "sum", .int 3)]
def sepKvs : List (Key × V) := [(Sum.inr "most", .str " | "), (Sum.inr "least", .str " & "), (Sum.inr "sum", .str " + ")]
theorem rank_get (k : Kd) : valV (mergeK [] rankKvs) (Sum.inr k.nm) = some (.int k.rank) := by cases k <;> decide +kernel
theorem sep_get (k : Kd) : valV (mergeK [] sepKvs) (Sum.inr k.nm) = some (.str k.sep) := by cases k <;> decide +kernel
theorem kd_num (k : Kd) : decide (V.str k.nm = V.str "number") = false := by cases k <;> decide +kernel
theorem kd_name (k : Kd) : decide (V.str k.nm = V.str "name") = false := by cases k <;> decide +kernel
theorem kd_gate (k : Kd) : decide (V.str k.nm = V.str "gate") = false := by cases k <;> decide +kernel
theorem cutTail {v : V} {r : List V} : cutV (v :: r) (some 1) none = r := by
  unfold cutV
  rw [HT.sIx_none, show HT.sIx (v :: r).length 0 (some 1) = 1 by rw [show (1 : Int) = ((1 : Nat) : Int) from rfl, HT.sIx_nat, List.length_cons]; omega]
  show (r.take ((v :: r).length - 1)) = r
  rw [List.length_cons, Nat.add_sub_cancel, List.take_length]
section
variable {P : Program} {w : World} {K : PySem.W.Frag} {mg : Str → Option Value} {base : Heap} {f : Addr} {fd : FuncData}
theorem ok_written0 (F : Fun K "_law_written" "_law_written" s_law_written f fd) (T : TxtL K mg) : FnOk P w K mg base CX0 1 f fd ["_law_tree_here", "_law_firm"] (spWritten 0) := by
  refine F.ok sc_law_written (fun vs H Q E h => ?_) (fun cdv A outer s H vs Q E hr h => ?_)
  · obtain ⟨v, t, firm, rfl, _⟩ := h
    rfl
  obtain ⟨v, t, firm, rfl, lv, wf, dp, sz, q⟩ := h
  have nd := sc_law_written.nd
  refine ⟨_, pss_cons (ps_if (pt_cmpR op_eq (pe_ix ix_tup (pv 0) pe_int (fun _ _ => rfl)) pe_str (nomark _)) (pss_one (ps_ret (pe_callTy call_str_int (by rfl) T.str (by decide +kernel) (pa_cons (pe_ix ix_tup (pv 0) pe_int (fun _ _ => rfl)) pa_nil)))) pss_nil)
    (pss_cons (ps_if (pt_cmpR op_eq (pe_ix ix_tup (pv 0) pe_int (fun _ _ => rfl)) pe_str (nomark _)) (pss_one (ps_ret (pe_ix ix_tup (pv 0) pe_int (fun _ _ => rfl)))) pss_nil)
    (pss_cons ps_never (pss_cons ps_never (pss_cons ps_never (pss_cons ps_never (pss_cons ps_never (pss_cons ps_never (pss_one ps_never)))))))), ?_⟩
  cases lv with
  | @num a n e =>
    exact ⟨_, rfl, a, _, _, _, rfl, rfl, SqT.of e, rfl, rfl, _, rfl, iteT ⟨_, rfl, a, _, _, _, rfl, rfl, SqT.of e, rfl, n, rfl, small_tx wf.1 (by have := wf.2; omega), q H (Same.refl H)⟩⟩
  | @name a z e =>
    refine ⟨_, rfl, a, _, _, _, rfl, rfl, SqT.of e, rfl, rfl, _, rfl, ?_⟩
    refine iteF ⟨_, rfl, a, _, _, _, rfl, rfl, SqT.of e, rfl, rfl, _, rfl, ?_⟩
    exact iteT ⟨_, rfl, a, _, _, _, rfl, rfl, SqT.of e, rfl, q H (Same.refl H)⟩
  | gate e _ => exact absurd dp (by unfold dep; omega)
  | join e _ _ _ => exact absurd dp (by unfold dep; omega)
theorem ok_writtenS {d k : Nat} (hk : 1 ≤ k) (F : Fun K "_law_written" "_law_written" s_law_written f fd) (T : TxtL K mg) (G : FnOk P w K mg base CX0 k f fd ["_law_tree_here", "_law_firm"] (spWritten d)) (b : Binds K fd ["_law_tree_here", "_law_firm"] []) (m : mg "_law_written" = some (.ref f)) :
    FnOk P w K mg base CX0 (k + 1) f fd ["_law_tree_here", "_law_firm"] (spWritten (d + 1)) := by
  refine F.ok sc_law_written (fun vs H Q E h => ?_) (fun cdv A outer s H vs Q E hr h => ?_)
  · obtain ⟨v, t, firm, rfl, _⟩ := h
    rfl
  obtain ⟨v, t, firm, rfl, lv, wf, dp, sz, q⟩ := h
  have nd := sc_law_written.nd
  have hu := hu_of hr
  refine ⟨_, pss_cons (ps_if (pt_cmpR op_eq (pe_ix ix_tup (pv 0) pe_int (fun _ _ => rfl)) pe_str (nomark _)) (pss_one (ps_ret (pe_callTy call_str_int (by rfl) T.str (by decide +kernel) (pa_cons (pe_ix ix_tup (pv 0) pe_int (fun _ _ => rfl)) pa_nil)))) pss_nil)
    (pss_cons (ps_if (pt_cmpR op_eq (pe_ix ix_tup (pv 0) pe_int (fun _ _ => rfl)) pe_str (nomark _)) (pss_one (ps_ret (pe_ix ix_tup (pv 0) pe_int (fun _ _ => rfl)))) pss_nil)
    (pss_cons (ps_if (pt_cmpR op_eq (pe_ix ix_tup (pv 0) pe_int (fun _ _ => rfl)) pe_str (nomark _)) (pss_one (ps_ret
        (pe_op op_add_str (pe_op op_add_str (pe_op op_add_str (pe_op op_add_str (pe_op op_add_str pe_str (pe_ix ix_tup (pv 0) pe_int (fun _ _ => rfl))) pe_str) (pe_callTy call_str_int (by rfl) T.str (by decide +kernel) (pa_cons (pe_ix ix_tup (pv 0) pe_int (fun _ _ => rfl)) pa_nil))) pe_str)
          (pe_call G hr rfl m F.kp b .nil pass0 (pa_cons (pe_ix ix_tup (pv 0) pe_int (fun _ _ => rfl)) (pa_cons pe_int pa_nil)))))) pss_nil)
    (pss_cons (ps_set (i := 2) nd rfl (.inl rfl) (pe_dget hu (pe_disp (pps_cons pe_str pe_int (pps_cons pe_str pe_int (pps_cons pe_str pe_int pps_nil))) (by rfl) (by rfl) (fun z => by cases z) (by decide)) (pe_ix ix_tup (pv 0) pe_int (fun _ _ => rfl)) (fun _ _ => rfl)))
    (pss_cons (ps_set (i := 3) nd rfl (.inl rfl) (pe_dget hu (pe_disp (pps_cons pe_str pe_str (pps_cons pe_str pe_str (pps_cons pe_str pe_str pps_nil))) (by rfl) (by rfl) (fun z => by cases z) (by decide)) (pe_ix ix_tup (pv 0) pe_int (fun _ _ => rfl)) (fun _ _ => rfl)))
    (pss_cons (ps_set (i := 4) nd rfl (.inl rfl) (pe_call G hr rfl m F.kp b .nil pass0 (pa_cons (pe_ix ix_list (pe_ix ix_tup (pv 0) pe_int (fun _ _ => rfl)) pe_int (fun _ _ => rfl)) (pa_cons (pe_op op_add (pv 2) pe_int) pa_nil))))
    (pss_cons (ps_for PassesOwn.never rfl (pi_list (pe_slice sl_list (pe_ix ix_tup (pv 0) pe_int (fun _ _ => rfl)) (po_some pe_int) po_none)) (pg_name (i := 5) nd rfl (.inl rfl))
      (pss_one (ps_set (i := 4) nd rfl (.inl rfl) (pe_op op_add_str (pe_op op_add_str (pv 4) (pv 3)) (pe_call G hr rfl m F.kp b .nil pass0 (pa_cons (pv 5) (pa_cons (pe_op op_add (pv 2) pe_int) pa_nil)))))))
    (pss_cons (ps_if (pt_cmpR op_lt (pv 2) (pv 1) (nomark _)) (pss_one (ps_ret (pe_op op_add_str (pe_op op_add_str pe_str (pv 4)) pe_str))) pss_nil)
    (pss_one (ps_ret (pv 4)))))))))), ?_⟩
  cases lv with
  | @num a n e =>
    exact ⟨_, rfl, a, _, _, _, rfl, rfl, SqT.of e, rfl, rfl, _, rfl, iteT ⟨_, rfl, a, _, _, _, rfl, rfl, SqT.of e, rfl, n, rfl, small_tx wf.1 (by have := wf.2; omega), q H (Same.refl H)⟩⟩
  | @name a z e =>
    refine ⟨_, rfl, a, _, _, _, rfl, rfl, SqT.of e, rfl, rfl, _, rfl, ?_⟩
    refine iteF ⟨_, rfl, a, _, _, _, rfl, rfl, SqT.of e, rfl, rfl, _, rfl, ?_⟩
    exact iteT ⟨_, rfl, a, _, _, _, rfl, rfl, SqT.of e, rfl, q H (Same.refl H)⟩
  | @gate a z bd v1 t1 e lv1 =>
    obtain ⟨hb, wf1⟩ := wf
    have sz' : z.length + 8 + Sz t1 ≤ 50000 := sz
    have l2 := tx_len hb
    have l3 := wr_Sz t1 4 wf1
    refine ⟨_, rfl, a, _, _, _, rfl, rfl, SqT.of e, rfl, rfl, _, rfl, ?_⟩
    refine iteF ⟨_, rfl, a, _, _, _, rfl, rfl, SqT.of e, rfl, rfl, _, rfl, ?_⟩
    refine iteF ⟨_, rfl, a, _, _, _, rfl, rfl, SqT.of e, rfl, rfl, _, rfl, ?_⟩
    refine iteT ⟨_, rfl, a, _, _, _, rfl, rfl, SqT.of e, rfl, _, z, rfl, rfl, ?_, _, _, rfl, rfl, ?_, ?_⟩
    · exact big (by show 1 + z.length ≤ _; omega)
    · rw [len_app]; exact big (by show 1 + z.length + 1 ≤ _; omega)
    refine ⟨_, rfl, a, _, _, _, rfl, rfl, SqT.of e, rfl, bd, rfl, small_tx hb.1 (by omega), _, tx bd, rfl, rfl, ?_, _, _, rfl, rfl, ?_, ?_⟩
    · rw [len_app, len_app]; exact big (by show 1 + z.length + 1 + (tx bd).length ≤ _; omega)
    · rw [len_app, len_app, len_app]; exact big (by show 1 + z.length + 1 + (tx bd).length + 2 ≤ _; omega)
    refine ⟨_, rfl, a, _, _, _, rfl, rfl, SqT.of e, rfl, v1, t1, 4, rfl, lv1, wf1, (by unfold dep at dp; omega), by omega, fun H' s' => ?_⟩
    refine ⟨_, _, rfl, rfl, ?_, ?_⟩
    · rw [len_app, len_app, len_app, len_app]; exact big (by show 1 + z.length + 1 + (tx bd).length + 2 + (wr 4 t1).length ≤ _; omega)
    · have r := q H' s'
      unfold wr at r
      exact r
  | @join a p kd vs ts e e2 h0 lvs =>
    obtain ⟨hl0, wfs⟩ := wf
    have sz' : 2 + Szs ts ≤ 50000 := sz
    have dp' : deps ts ≤ d := by unfold dep at dp; omega
    have tkk : ∀ t ∈ ts, WF t ∧ dep t ≤ d ∧ Sz t ≤ 50000 := fun t m => ⟨wfs.mem m, Nat.le_trans (dep_mem m) dp', by have := Sz_mem m; omega⟩
    refine ⟨_, rfl, a, _, _, _, rfl, rfl, SqT.of e, rfl, rfl, _, rfl, ?_⟩
    rw [kd_num]
    refine iteF ⟨_, rfl, a, _, _, _, rfl, rfl, SqT.of e, rfl, rfl, _, rfl, ?_⟩
    rw [kd_name]
    refine iteF ⟨_, rfl, a, _, _, _, rfl, rfl, SqT.of e, rfl, rfl, _, rfl, ?_⟩
    rw [kd_gate]
    refine iteF (fun p1 hp1 => ?_)
    have s1 : Same H (upd (upd H p1 (.dK [])) p1 (.dK (mergeK [] rankKvs))) := same_upd (same_new hp1 _) hp1 _
    refine ⟨upd_same, rankKvs, rfl, by decide, ?_⟩
    refine ⟨_, rfl, a, _, _, _, rfl, rfl, SqT.of (s1 _ _ e), rfl, p1, .int kd.rank, rfl, ?_, ?_⟩
    · rw [← rank_get kd]; exact DGet.k (k := Sum.inr kd.nm) upd_same
    intro p2 hp2
    generalize eH1 : upd (upd H p1 (.dK [])) p1 (.dK (mergeK [] rankKvs)) = H1 at s1 hp2 ⊢
    have s2 : Same H1 (upd (upd H1 p2 (.dK [])) p2 (.dK (mergeK [] sepKvs))) := same_upd (same_new hp2 _) hp2 _
    refine ⟨upd_same, sepKvs, rfl, by decide, ?_⟩
    refine ⟨_, rfl, a, _, _, _, rfl, rfl, SqT.of (s2 _ _ (s1 _ _ e)), rfl, p2, .str kd.sep, rfl, ?_, ?_⟩
    · rw [← sep_get kd]; exact DGet.k (k := Sum.inr kd.nm) upd_same
    generalize eH2 : upd (upd H1 p2 (.dK [])) p2 (.dK (mergeK [] sepKvs)) = H2 at s2 ⊢
    have s02 := s1.trans s2
    cases lvs with
    | nil => exact absurd h0 (Nat.lt_irrefl 0)
    | @cons v0 t0 vr tr lv0 lvr =>
      have hn : ∀ t ∈ t0 :: tr, (wr (kd.rank + 1) t).length ≤ Sz t := fun t ht => wr_Sz t _ (wfs.mem ht)
      have bnd : ∀ i, (wrs kd.sep (kd.rank + 1) (t0 :: tr.take i)).length ≤ Szs (t0 :: tr.take i) := fun i => wrs_Sz _ _ _ (sep_len kd) (WFs.of fun t ht => wfs.mem (by
        rcases List.mem_cons.mp ht with z | z
        · exact z ▸ List.mem_cons_self
        · exact List.mem_cons_of_mem _ (List.mem_of_mem_take z)))
      have bnds : ∀ i, Szs (t0 :: tr.take i) ≤ Szs (t0 :: tr) := fun i => by have := Szs_take tr i; show Sz t0 + 3 + Szs (tr.take i) ≤ Sz t0 + 3 + Szs tr; omega
      refine ⟨_, rfl, a, _, _, _, rfl, rfl, SqT.of (s02 _ _ e), rfl, p, _, _, v0, rfl, rfl, SqL.of (s02 _ _ e2), atI_nat (j := 0) rfl, ?_⟩
      refine ⟨_, rfl, _, _, rfl, rfl, v0, t0, kd.rank + 1, rfl, lv0.mono (.of_same s02), (tkk t0 List.mem_cons_self).1, (tkk t0 List.mem_cons_self).2.1, (tkk t0 List.mem_cons_self).2.2, fun H3 s3 => ?_⟩
      have s03 := s02.trans s3
      refine ⟨_, rfl, a, _, _, _, rfl, rfl, SqT.of (s03 _ _ e), rfl, 1, rfl, p, _, rfl, SqL.of (s03 _ _ e2), fun p3 hp3 => ?_⟩
      have s04 := s03.trans (same_new hp3 (.lst (cutV (v0 :: vr) (some 1) none)))
      rw [cutTail] at s04 ⊢
      refine ⟨p3, rfl, ⟨_, SqL.of upd_same⟩, for_list (K := K) (a := p3) (xs := vr) (fun i σ H' => ∃ v5 : Option V, σ = [some (.ref a), some (.int firm), some (.int kd.rank), some (.str kd.sep), some (.str (wrs kd.sep (kd.rank + 1) (t0 :: tr.take i))), v5] ∧ Same (upd H3 p3 (.lst vr)) H')
        ⟨none, by rw [List.take_zero, wrs_one]; rfl, Same.refl _⟩ (fun i σ H' _ ⟨_, _, s5⟩ => s5.seq (SqL.of upd_same)) ?_ ?_⟩
      · rintro i x σ H4 hi ⟨v5, rfl, s5⟩
        obtain ⟨t5, ht5, lv5⟩ := lvr.get hi
        have m5 := List.mem_cons_of_mem t0 (List.mem_of_getElem? ht5)
        have b1 := bnd i
        have b1' := bnds i
        have b5 := Sz_mem m5
        have b3 := sep_len kd
        have b4 := hn t5 m5
        refine ⟨_, rfl, _, rfl, _, _, rfl, rfl, big (by omega), ?_⟩
        refine ⟨_, rfl, _, rfl, _, _, rfl, rfl, x, t5, kd.rank + 1, rfl, lv5.mono (.of_same (s04.trans s5)), (tkk t5 m5).1, (tkk t5 m5).2.1, (tkk t5 m5).2.2, fun H5 s6 => ?_⟩
        refine ⟨_, _, rfl, rfl, ?_, some x, ?_, s5.trans s6⟩
        · rw [len_app]; exact big (by omega)
        · rw [take_more ht5, ← List.cons_append, wrs_snoc _ _ _ (by intro z; cases z)]
          rfl
      · rintro σ H4 ⟨v5, rfl, s5⟩
        have b1 := bnd vr.length
        have b1' := bnds vr.length
        rw [lvr.length, List.take_length] at b1 ⊢
        have r := q H4 (s04.trans s5)
        unfold wr at r
        refine ⟨_, rfl, _, rfl, _, _, rfl, rfl, _, rfl, ?_⟩
        by_cases c : kd.rank < firm
        · rw [if_pos c] at r
          rw [show decide (kd.rank < firm) = true from decide_eq_true c]
          refine iteT ⟨_, rfl, _, _, rfl, rfl, ?_, _, _, rfl, rfl, ?_, r⟩
          · exact big (by show 1 + (wrs kd.sep (kd.rank + 1) (t0 :: tr)).length ≤ _; omega)
          · rw [len_app]; exact big (by show 1 + (wrs kd.sep (kd.rank + 1) (t0 :: tr)).length + 1 ≤ _; omega)
        · rw [if_neg c] at r
          rw [show decide (kd.rank < firm) = false from decide_eq_false c]
          exact iteF ⟨_, rfl, r⟩
end
end Aw

namespace Aw
open PySem L2
def spShown (n : Nat) : Sp := fun vs H Q _ => ∃ (v : V) (t : T), vs = [v] ∧ TA H v t ∧ WF t ∧ dep t ≤ n ∧ Sz t ≤ 100000 ∧ ∀ H', Same H H' → Q (.str (wr 0 t)) H'
def spWithin (n : Nat) : Sp := fun vs H Q _ => ∃ (o : Option Kd) (v : V) (t : T), vs = [.str (kfs o), v] ∧ TA H v t ∧ WF t ∧ dep t ≤ n ∧ Sz t ≤ 100000 ∧ ∀ H', Same H H' → Q (.str (wr (kff o) t)) H'
structure TxtB (K : PySem.W.Frag) (mg : Str → Option Value) (w : World) : Prop where
  gB : ∃ a, mg "BARE" = some (.ref a) ∧ ∀ o : Option Kd, ∃ b, KDct K w a (kfs o) (.ref b) ∧ ∀ H, SqT K H b ((bare o).map V.str)
theorem app_empty (a : Str) : Str.empty ++ a = a := by
  show (⟨#[] ++ a.cps⟩ : Str) = a
  rw [Array.empty_append]
theorem TA.headIs {H : Hp} {v : V} {t : T} (h : TA H v t) : ∃ a xs, v = .ref a ∧ H a = some (.tup (.str (kinds_of t) :: xs)) := by
  cases h with
  | num e => exact ⟨_, _, rfl, e⟩
  | name e => exact ⟨_, _, rfl, e⟩
  | gate e _ => exact ⟨_, _, rfl, e⟩
  | join e _ _ => exact ⟨_, _, rfl, e⟩
section
variable {P : Program} {w : World} {K : PySem.W.Frag} {mg : Str → Option Value} {base : Heap} {f : Addr} {fd : FuncData}
theorem ok_within {n k : Nat} {g : Addr} {gd : FuncData} (F : Fun K "shown_within" "shown_within" s_shown_within f fd) (TB : TxtB K mg w) (G : FnOk P w K mg base CX0 k g gd ["recipe"] (spShown n)) (b : Binds K gd ["recipe"] []) (kG : PySem.W.keepIn K (.ref g) = true) (m : mg "shown" = some (.ref g)) :
    FnOk P w K mg base CX0 (k + 1) f fd ["kind", "piece"] (spWithin n) := by
  obtain ⟨aB, gB, tB⟩ := TB.gB
  refine F.ok sc_shown_within (fun vs H Q E h => ?_) (fun cdv A outer s H vs Q E hr h => ?_)
  · obtain ⟨o, v, t, rfl, _⟩ := h
    rfl
  obtain ⟨o, v, t, rfl, tv, wf, dp, sz, q⟩ := h
  have nd := sc_shown_within.nd
  refine ⟨_, pss_cons (ps_set (i := 2) nd rfl (.inl rfl) (pe_call G hr rfl m kG b .nil pass0 (pa_cons (pv 1) pa_nil)))
    (pss_cons (ps_if (pt_cmpR op_in_seq (pe_ix ix_tup (pv 1) pe_int (fun _ _ => rfl)) (pe_ix ix_kdict (pe_glob (v := .ref aB) rfl gB rfl) (pv 0) (fun _ _ => rfl)) rfl) (pss_one (ps_ret (pv 2))) pss_nil)
    (pss_one (ps_ret (pe_joined (.cons pe_str (.cons (pe_fmt (pv 2)) (.cons pe_str .nil))))))), ?_⟩
  refine ⟨_, rfl, v, t, rfl, tv, wf, dp, sz, fun H1 s1 => ?_⟩
  obtain ⟨a, xs, rfl, e⟩ := tv.headIs
  obtain ⟨bt, kb, sb⟩ := tB o
  refine ⟨_, rfl, a, _, _, .str (kinds_of t), rfl, rfl, SqT.of (s1 _ _ e), atI_nat (j := 0) rfl, ?_⟩
  refine ⟨_, rfl, aB, kfs o, _, rfl, rfl, kb, bt, _, rfl, .inr (sb H1), rfl, flat_strs _, _, rfl, ?_⟩
  have r := q H1 s1
  rw [bare_iff] at r
  rw [show (if false = true then !inV (V.str (kinds_of t)) ((bare o).map V.str) else inV (V.str (kinds_of t)) ((bare o).map V.str)) = decide (kinds_of t ∈ bare o) from in_strs _ _]
  have l0 := wr_Sz t 0 wf
  by_cases c : kinds_of t ∈ bare o
  · rw [if_pos c] at r
    rw [decide_eq_true c]
    exact iteT ⟨_, rfl, r⟩
  · rw [if_neg c] at r
    rw [decide_eq_false c]
    refine iteF ⟨_, rfl, ?_, _, rfl, .inl ⟨wr 0 t, rfl, Nat.le_trans l0 (big sz), wr 0 t, rfl, ?_, _, rfl, ?_, ?_⟩⟩
    · exact big (by show 0 + 1 ≤ 100000; decide)
    · rw [len_app]
      refine Nat.le_trans (show 0 + 1 + (wr 0 t).length ≤ 100001 by omega) (by decide)
    · rw [len_app, len_app]
      refine Nat.le_trans (show 0 + 1 + (wr 0 t).length + 1 ≤ 100002 by omega) (by decide)
    · rw [app_empty]
      exact r
theorem ok_shown0 (F : Fun K "shown" "shown" s_shown f fd) (st : mg "str" = none) : FnOk P w K mg base CX0 1 f fd ["recipe"] (spShown 0) := by
  refine F.ok sc_shown (fun vs H Q E h => ?_) (fun cdv A outer s H vs Q E hr h => ?_)
  · obtain ⟨v, t, rfl, _⟩ := h
    rfl
  obtain ⟨v, t, rfl, tv, wf, dp, sz, q⟩ := h
  have nd := sc_shown.nd
  refine ⟨_, pss_cons (ps_set (i := 1) nd rfl (.inr rfl) (pe_ix ix_tup (pv 0) pe_int (fun _ _ => rfl)))
    (pss_cons (ps_if (pt_cmpR op_eq (pv 1) pe_str (nomark _)) (pss_one (ps_ret (pe_callTy call_str_int (by rfl) st (by decide +kernel) (pa_cons (pe_ix ix_tup (pv 0) pe_int (fun _ _ => rfl)) pa_nil)))) pss_nil)
    (pss_cons (ps_if (pt_cmpR op_eq (pv 1) pe_str (nomark _)) (pss_one (ps_ret (pe_ix ix_tup (pv 0) pe_int (fun _ _ => rfl)))) pss_nil)
    (pss_cons ps_never (pss_cons ps_never (pss_cons ps_never (pss_one ps_never)))))), ?_⟩
  cases tv with
  | @num a n e =>
    exact ⟨_, rfl, a, _, _, _, rfl, rfl, SqT.of e, rfl, _, rfl, rfl, _, rfl, iteT ⟨_, rfl, a, _, _, _, rfl, rfl, SqT.of e, rfl, n, rfl, small_tx wf.1 (by have := wf.2; omega), q H (Same.refl H)⟩⟩
  | @name a z e =>
    refine ⟨_, rfl, a, _, _, _, rfl, rfl, SqT.of e, rfl, _, rfl, rfl, _, rfl, ?_⟩
    refine iteF ⟨_, rfl, rfl, _, rfl, ?_⟩
    exact iteT ⟨_, rfl, a, _, _, _, rfl, rfl, SqT.of e, rfl, q H (Same.refl H)⟩
  | gate e _ => exact absurd dp (by unfold dep; omega)
  | join e _ _ => exact absurd dp (by unfold dep; omega)
theorem ok_shownS {n k : Nat} {g : Addr} {gd : FuncData} (hk : 1 ≤ k) (F : Fun K "shown" "shown" s_shown f fd) (st : mg "str" = none) (TC : TxtC K mg w) (G : FnOk P w K mg base CX0 k g gd ["kind", "piece"] (spWithin n)) (b : Binds K gd ["kind", "piece"] []) (kG : PySem.W.keepIn K (.ref g) = true) (m : mg "shown_within" = some (.ref g)) :
    FnOk P w K mg base CX0 (k + 1) f fd ["recipe"] (spShown (n + 1)) := by
  obtain ⟨aS, gS, tS⟩ := TC.gSg
  refine F.ok sc_shown (fun vs H Q E h => ?_) (fun cdv A outer s H vs Q E hr h => ?_)
  · obtain ⟨v, t, rfl, _⟩ := h
    rfl
  obtain ⟨v, t, rfl, tv, wf, dp, sz, q⟩ := h
  have nd := sc_shown.nd
  refine ⟨_, pss_cons (ps_set (i := 1) nd rfl (.inr rfl) (pe_ix ix_tup (pv 0) pe_int (fun _ _ => rfl)))
    (pss_cons (ps_if (pt_cmpR op_eq (pv 1) pe_str (nomark _)) (pss_one (ps_ret (pe_callTy call_str_int (by rfl) st (by decide +kernel) (pa_cons (pe_ix ix_tup (pv 0) pe_int (fun _ _ => rfl)) pa_nil)))) pss_nil)
    (pss_cons (ps_if (pt_cmpR op_eq (pv 1) pe_str (nomark _)) (pss_one (ps_ret (pe_ix ix_tup (pv 0) pe_int (fun _ _ => rfl)))) pss_nil)
    (pss_cons (ps_if (pt_cmpR op_eq (pv 1) pe_str (nomark _))
      (pss_cons (ps_asg (pv 0) (pg_tup (by rfl) (pgs_cons (pg_name (i := 2) nd rfl (.inl rfl)) (pgs_cons (pg_name (i := 3) nd rfl (.inl rfl)) (pgs_cons (pg_name (i := 4) nd rfl (.inl rfl)) (pgs_cons (pg_name (i := 5) nd rfl (.inl rfl)) pgs_nil))))))
      (pss_one (ps_ret (pe_joined (.cons pe_str (.cons (pe_fmt (pv 3)) (.cons pe_str (.cons (pe_fmt (pv 4)) (.cons pe_str (.cons (pe_fmt (pe_call G hr rfl m kG b .nil pass0 (pa_cons (pv 1) (pa_cons (pv 5) pa_nil)))) .nil)))))))))) pss_nil)
    (pss_cons (ps_setLc (i := 6) (own := [("piece", 5)]) (g := gName 5) rfl nd rfl rfl (sw_true rfl rfl rfl (by decide +kernel)) (pi_tup (pe_ix ix_tup (pv 0) pe_int (fun _ _ => rfl))) (blkOk_by (N := ["recipe", "kind", "_", "name", "bound", "piece", "parts", "sign"]) (sc := defScope s_shown) (by decide +kernel))
      (fun _ _ _ _ _ => pg_name (i := 5) nd rfl (.inl rfl)) (fun _ _ _ _ _ => pts_nil) (fun _ _ _ _ _ => pe_call G hr rfl m kG b .nil pass0 (pa_cons (pv 1) (pa_cons (pv 5) pa_nil))))
    (pss_cons (ps_set (i := 7) nd rfl (.inl rfl) (pe_joined (.cons pe_str (.cons (pe_fmt (pe_ix ix_kdict (pe_glob (v := .ref aS) rfl gS rfl) (pv 1) (fun _ _ => rfl))) (.cons pe_str .nil)))))
    (pss_one (ps_ret (pe_join (pv 7) (pv 6))))))))), ?_⟩
  cases tv with
  | @num a n e =>
    exact ⟨_, rfl, a, _, _, _, rfl, rfl, SqT.of e, rfl, _, rfl, rfl, _, rfl, iteT ⟨_, rfl, a, _, _, _, rfl, rfl, SqT.of e, rfl, n, rfl, small_tx wf.1 (by have := wf.2; omega), q H (Same.refl H)⟩⟩
  | @name a z e =>
    refine ⟨_, rfl, a, _, _, _, rfl, rfl, SqT.of e, rfl, _, rfl, rfl, _, rfl, ?_⟩
    refine iteF ⟨_, rfl, rfl, _, rfl, ?_⟩
    exact iteT ⟨_, rfl, a, _, _, _, rfl, rfl, SqT.of e, rfl, q H (Same.refl H)⟩
  | @gate a z bd v1 t1 e tv1 =>
    obtain ⟨hb, wf1⟩ := wf
    have sz' : z.length + 8 + Sz t1 ≤ 100000 := sz
    have l2 := tx_len hb
    have l3 := wr_Sz t1 4 wf1
    refine ⟨_, rfl, a, _, _, _, rfl, rfl, SqT.of e, rfl, _, rfl, rfl, _, rfl, ?_⟩
    refine iteF ⟨_, rfl, rfl, _, rfl, ?_⟩
    refine iteF ⟨_, rfl, rfl, _, rfl, ?_⟩
    refine iteT ⟨_, rfl, a, _, rfl, SqT.of e, rfl, _, _, rfl, _, _, rfl, _, _, rfl, _, _, rfl, rfl, ?_⟩
    refine ⟨_, rfl, ?_, _, rfl, .inl ⟨z, rfl, big (by omega), z, rfl, ?_, _, rfl, ?_, ?_⟩⟩
    · exact big (by show 0 + 1 ≤ 100000; decide)
    · rw [len_app]; exact big (by show 0 + 1 + z.length ≤ _; omega)
    · rw [len_app, len_app]; exact big (by show 0 + 1 + z.length + 1 ≤ _; omega)
    refine ⟨_, rfl, .inr ⟨bd, rfl, small_tx hb.1 (by omega), tx bd, rfl, ?_, _, rfl, ?_, ?_⟩⟩
    · rw [len_app, len_app, len_app]; exact big (by show 0 + 1 + z.length + 1 + (tx bd).length ≤ _; omega)
    · rw [len_app, len_app, len_app, len_app]; exact big (by show 0 + 1 + z.length + 1 + (tx bd).length + 2 ≤ _; omega)
    refine ⟨_, rfl, _, rfl, none, v1, t1, rfl, tv1, wf1, (by unfold dep at dp; omega), by omega, fun H1 s1 => ?_⟩
    refine .inl ⟨wr 4 t1, rfl, big (by omega), wr 4 t1, rfl, ?_, ?_⟩
    · rw [len_app, len_app, len_app, len_app, len_app]
      exact big (by show 0 + 1 + z.length + 1 + (tx bd).length + 2 + (wr 4 t1).length ≤ _; omega)
    · have r := q H1 s1
      unfold wr at r
      rw [app_empty]
      exact r
  | @join a p kd vs ts e e2 tvs =>
    obtain ⟨h0, wfs⟩ := wf
    have sz' : 2 + Szs ts ≤ 100000 := sz
    have dp' : deps ts ≤ n := by unfold dep at dp; omega
    refine ⟨_, rfl, a, _, _, _, rfl, rfl, SqT.of e, rfl, _, rfl, rfl, _, rfl, ?_⟩
    rw [kd_num]
    refine iteF ⟨_, rfl, rfl, _, rfl, ?_⟩
    rw [kd_name]
    refine iteF ⟨_, rfl, rfl, _, rfl, ?_⟩
    rw [kd_gate]
    refine iteF ⟨_, rfl, a, _, _, _, rfl, rfl, SqT.of e, rfl, p, rfl, ⟨_, SqT.of e2⟩, fun D hD => ?_⟩
    refine walk_gen (walk_tup (K := K) (a := p) (xs := vs)) (fun i H' => Same H H' ∧ H' D = some (.lst (((ts.take i).map (wr (kd.rank + 1))).map V.str))) ⟨same_new hD _, upd_same⟩ (fun i H' _ h => SqT.of (h.1 _ _ e2)) ?_ ?_
    · rintro i x H1 H2 hi ⟨s1, e1⟩ ⟨rfl, hx⟩
      obtain ⟨t5, ht5, tv5⟩ := tvs.get hx
      have m5 := List.mem_of_getElem? ht5
      refine ⟨rfl, ?_⟩
      refine ⟨_, rfl, _, rfl, some kd, x, t5, rfl, tv5.mono (.of_same s1), wfs.mem m5, Nat.le_trans (dep_mem m5) dp', (by have := Sz_mem m5; omega), fun H5 s5 => ?_⟩
      refine ⟨_, s5 _ _ e1, ?_, same_upd (s1.trans s5) hD _, ?_⟩
      · rw [List.length_map, List.length_map, List.length_take]
        have g : ∀ l : List T, l.length ≤ Szs l := by
          intro l
          induction l with
          | nil => exact Nat.le_refl _
          | cons u r ih => show r.length + 1 ≤ Sz u + 3 + Szs r; omega
        have := g ts
        exact Nat.lt_of_le_of_lt (by omega : min i ts.length ≤ 100000) (by decide)
      · rw [upd_same, take_more ht5, List.map_append, List.map_append]
        rfl
    · rintro H1 ⟨s1, e1⟩
      rw [tvs.length, List.take_length] at e1
      have ls := sum_Sz (kd.rank + 1) ts wfs
      have l1 : kd.sg.length = 1 := by cases kd <;> decide +kernel
      refine ⟨_, rfl, big (by show 0 + 1 ≤ 100000; decide), _, rfl, aS, kd.nm, _, rfl, rfl, tS kd, .inl ⟨kd.sg, rfl, big (by omega), kd.sg, rfl, ?_, _, rfl, ?_, ?_⟩⟩
      · rw [len_app]; exact big (by show 0 + 1 + kd.sg.length ≤ _; omega)
      · rw [len_app, len_app]; exact big (by show 0 + 1 + kd.sg.length + 1 ≤ _; omega)
      · have es : Str.empty ++ " " ++ kd.sg ++ " " = kd.sep := by rw [app_empty]; rfl
        refine ⟨_, rfl, ⟨_, rfl⟩, _, rfl, _, D, ts.map (wr (kd.rank + 1)), rfl, rfl, .inl (SqL.of e1), ?_, ?_⟩
        · show _ + _ * (Str.empty ++ " " ++ kd.sg ++ " ").length ≤ _
          rw [es, List.length_map, sep_len]
          omega
        · show Q (.str (Txt.join (Str.empty ++ " " ++ kd.sg ++ " ") (ts.map (wr (kd.rank + 1))))) H1
          rw [es, TL.join_eq, ← wrs_join]
          have r := q H1 s1
          unfold wr at r
          rw [if_neg (by cases kd <;> decide)] at r
          exact r
end
end Aw

namespace Aw
open PySem L2
/-! ### the law's own reader -/
structure LWs (ws : List Str) : Prop where
  ln : ws.length ≤ 1000
  wl : ∀ w ∈ ws, w.length ≤ 1000
  ok : ∀ w ∈ ws, PyData.strOk w = true
theorem LWs.wd {ws : List Str} (h : LWs ws) (i : Nat) : (wd ws i).length ≤ 1000 := WsOk.wd ⟨h.wl⟩ i
/-- the words ahead of a place, one or none -/
def sl1 (ws : List Str) (i : Nat) : List Str := if i < ws.length then [wd ws i] else []
theorem cutI (ws : List Str) (i : Nat) : cutV (ws.map V.str) (some ((i : Nat) : Int)) (some (((i : Nat) : Int) + 1)) = (sl1 ws i).map V.str := by
  unfold cutV sl1
  rw [show (((i : Nat) : Int) + 1) = ((i + 1 : Nat) : Int) by omega, HT.sIx_nat, HT.sIx_nat, List.length_map]
  by_cases c : i < ws.length
  · rw [if_pos c, Nat.min_eq_left (by omega), Nat.min_eq_left (by omega), ← List.map_drop, List.drop_eq_getElem_cons c, List.map_cons, show i + 1 - i = 1 by omega]
    have e := wd_get c
    rw [List.getElem?_eq_getElem c] at e
    rw [Option.some.inj e]
    rfl
  · rw [if_neg c, Nat.min_eq_right (by omega), Nat.min_eq_right (by omega), Nat.sub_self]
    simp
theorem join1 (ws : List Str) (i : Nat) : Txt.join "" (sl1 ws i) = wd ws i := by
  unfold sl1
  by_cases c : i < ws.length
  · rw [if_pos c]; rfl
  · rw [if_neg c, wd_end c]; rfl
theorem eqv1 (ws : List Str) (i : Nat) {s : Str} (h0 : ¬ Str.empty = s) : PyData.eqv (.list ((sl1 ws i).map PyData.str)) (.list [.str s]) = decide (wd ws i = s) := by
  unfold sl1
  by_cases c : i < ws.length
  · rw [if_pos c]
    by_cases e : wd ws i = s
    · rw [decide_eq_true e, e]
      simp [PyData.eqv, PyData.eqvAll]
    · rw [decide_eq_false e]
      simp [PyData.eqv, PyData.eqvAll, e]
  · rw [if_neg c, wd_end c, decide_eq_false h0]
    simp [PyData.eqv, PyData.eqvAll]
theorem can_ok : ∀ (l : List Str), (∀ s ∈ l, PyData.strOk s = true) → PyData.canLayAll0 (l.map PyData.str) = true
  | [], _ => by simp [PyData.canLayAll0]
  | s :: r, h => by
    show (PyData.canLay0 (.str s) && PyData.canLayAll0 (r.map PyData.str)) = true
    rw [can_ok r fun u hu => h u (List.mem_cons_of_mem _ hu), Bool.and_true]
    unfold PyData.canLay0
    exact h s List.mem_cons_self
theorem shaped_ok {l : List Str} (h : ∀ s ∈ l, PyData.strOk s = true) : SeqAt.shaped (.list (l.map PyData.str)) = true := by
  unfold SeqAt.shaped
  have e1 : PyData.canLay0 (.list (l.map PyData.str)) = true := by unfold PyData.canLay0; exact can_ok l h
  have e2 : PyData.depth (.list (l.map PyData.str)) ≤ 64 := by
    have := depth_strs l
    unfold PyData.depth
    omega
  rw [e1, decide_eq_true e2]
  rfl
theorem sl1_ok {ws : List Str} (h : LWs ws) (i : Nat) : ∀ s ∈ sl1 ws i, PyData.strOk s = true := by
  intro s hs
  unfold sl1 at hs
  split at hs
  · next c => rw [List.mem_singleton.mp hs]; exact h.ok _ (List.mem_of_getElem? (wd_get c))
  · cases hs
theorem sl1_len {ws : List Str} (h : LWs ws) (i : Nat) : ((sl1 ws i).map (·.length)).sum + (sl1 ws i).length * ("" : Str).length ≤ 16777216 := by
  have e : ("" : Str).length = 0 := by decide +kernel
  rw [e, Nat.mul_zero]
  unfold sl1
  split
  · show (wd ws i).length + 0 + 0 ≤ _
    have := h.wd i
    omega
  · decide
/-- what a reading comes to: None, or the tree and the place behind it -/
def LOut (H : Hp) (Q : VK) : Option (T × Nat) → Prop
  | none => ∀ H', Same H H' → Q .non H'
  | some (t, j) => ∀ (a : Addr) (v : V) (H' : Hp), Same H H' → H a = none → H' a = some (.tup [v, .int ((j : Nat) : Int)]) → LA (fresh H H') v t → Q (.ref a) H'
theorem LOut.mono {H H1 : Hp} {Q : VK} (s : Same H H1) : ∀ {o : Option (T × Nat)}, LOut H Q o → LOut H1 Q o
  | none, q => fun H' s' => q H' (s.trans s')
  | some (t, j), q => fun a v H' s' hn e l => by
    refine q a v H' (s.trans s') (s.free hn) e (l.mono (.of_same fun b o hb => ?_))
    obtain ⟨z1, z2⟩ := fresh_inv hb
    exact fresh_at (s.free z1) z2
def spSing (d : Nat) : Sp := fun vs H Q _ => ∃ (wl : Addr) (ws : List Str) (i : Nat), vs = [.ref wl, .int i, .int (2 - (d : Int))] ∧ H wl = some (.lst (ws.map V.str)) ∧ LWs ws ∧ LOut H Q (pieceM ws (d + 1) i)
def spChain (d : Nat) (r : Nat) : Sp := fun vs H Q _ => ∃ (wl : Addr) (ws : List Str) (i : Nat), vs = [.ref wl, .int i, .int (2 - (d : Int)), .int ((r : Nat) : Int)] ∧ H wl = some (.lst (ws.map V.str)) ∧ LWs ws ∧ LOut H Q (levelM ws (pieceM ws (d + 1)) (ks r) i)
def spNumL : Sp := fun vs H Q _ => ∃ z, vs = [.str z] ∧ Q (.int ((numM 0 z).getD (-1))) H
section
variable {P : Program} {w : World} {K : PySem.W.Frag} {mg : Str → Option Value} {base : Heap} {f : Addr} {fd : FuncData}
theorem count_all {p : Nat → Bool} : ∀ l : List Nat, decide ((l.filter p).length = l.length) = l.all p
  | [] => by simp
  | a :: r => by
    have ih := count_all (p := p) r
    rw [List.filter_cons, List.all_cons]
    cases e : p a with
    | true =>
      rw [if_pos rfl, List.length_cons, List.length_cons, Bool.true_and, ← ih]
      exact decide_eq_decide.mpr (by omega)
    | false =>
      rw [if_neg Bool.false_ne_true, Bool.false_and]
      have := List.length_filter_le p r
      exact decide_eq_false (by rw [List.length_cons]; omega)
theorem nameM_chain (z : Str) : nameM z = (decide ((0 : Int) < (z.length : Int)) && (decide ((z.length : Int) < 7) && decide (((z.cps.toList.filter fun c => decide (c ∈ LET)).length : Int) = (z.length : Int)))) := by
  have e := count_all (p := fun c => decide (c ∈ LET)) z.cps.toList
  have hl : z.cps.toList.length = z.length := Array.length_toList
  unfold nameM
  rw [← e, hl]
  by_cases c1 : 1 ≤ z.length
  · by_cases c2 : z.length ≤ 6
    · rw [decide_eq_true (show 1 ≤ z.length ∧ z.length ≤ 6 from ⟨c1, c2⟩), decide_eq_true (show (0 : Int) < (z.length : Int) by omega), decide_eq_true (show (z.length : Int) < 7 by omega), Bool.true_and, Bool.true_and, Bool.true_and]
      exact decide_eq_decide.mpr (by omega)
    · rw [decide_eq_false (show ¬ (1 ≤ z.length ∧ z.length ≤ 6) by omega), decide_eq_false (show ¬ (z.length : Int) < 7 by omega), Bool.false_and, Bool.false_and, Bool.and_false]
  · rw [decide_eq_false (show ¬ (1 ≤ z.length ∧ z.length ≤ 6) by omega), decide_eq_false (show ¬ (0 : Int) < (z.length : Int) by omega), Bool.false_and, Bool.false_and]
theorem ok_isName (F : Fun K "_law_is_name" "_law_is_name" s_law_is_name f fd) (zl : mg "len" = none) : FnOk P w K mg base CX0 1 f fd ["_law_word"] spName := by
  refine F.ok sc_law_is_name (fun vs H Q E h => ?_) (fun cdv A outer s H vs Q E hr h => ?_)
  · obtain ⟨z, rfl, _⟩ := h
    rfl
  obtain ⟨z, rfl, hz, k⟩ := h
  have nd := sc_law_is_name.nd
  refine ⟨_, pss_cons (ps_set (i := 1) nd rfl (.inr rfl) pe_str)
    (pss_one (ps_ret (pe_and (pe_chain op_lt op_lt pe_int (pe_callB call_len_str (by rfl) zl PySem.boot_len (pa_cons (pv 0) pa_nil)) pe_int)
      (pe_one (pe_cmpR op_eq (pe_callB call_len_seq (by rfl) zl PySem.boot_len (pa_cons
        (pe_lc (own := [("_law_sign", 2)]) (g := gName 2) (tt := _) rfl nd (pi_str (pv 0)) (blkOk_by (N := ["_law_word", "_law_letters", "_law_sign"]) (sc := defScope s_law_is_name) (by decide +kernel)) (fun _ _ _ _ _ => pg_name (i := 2) nd rfl (.inl rfl)) (fun _ _ _ _ _ => pts_one (pt_cmpR op_in_sign (pv 2) (pv 1) rfl))
          (fun _ _ _ _ _ => pv 2)) pa_nil)) (pe_callB call_len_str (by rfl) zl PySem.boot_len (pa_cons (pv 0) pa_nil)) (nomark _)))))), ?_⟩
  rw [nameM_chain z] at k
  refine ⟨_, rfl, _, rfl, big (by omega), _, _, rfl, rfl, _, rfl, ?_⟩
  by_cases c1 : (0 : Int) < (z.length : Int)
  · rw [decide_eq_true c1] at k ⊢
    refine iteT ⟨_, _, rfl, rfl, ?_⟩
    refine ⟨decide ((z.length : Int) < 7), rfl, ?_⟩
    by_cases c2 : (z.length : Int) < 7
    · rw [decide_eq_true c2] at k ⊢
      refine iteT ?_
      refine ⟨_, rfl, _, rfl, fun D hD => ?_⟩
      refine lc_it (walk_str (z := z)) (fun i H' => Same H H' ∧ H' D = some (.lst (((z.cps.toList.take i).filter fun c => decide (c ∈ LET)).map fun c => V.str (sg1 c)))) ?_ (fun _ _ _ _ => trivial) ?_ ?_
      · exact ⟨same_new hD _, upd_same⟩
      · rintro i x H1 H2 hi ⟨s1, e1⟩ ⟨rfl, c, hc, rfl⟩
        have hc' : z.cps.toList[i]? = some c := by rw [Array.getElem?_toList]; exact hc
        have hi' : i < z.length := hi
        refine ⟨rfl, ?_⟩
        refine ⟨_, rfl, _, rfl, c, _, rfl, rfl, _, rfl, ?_⟩
        rw [take_more hc', List.filter_append, List.filter_cons, List.filter_nil]
        refine ite2 (fun q => ?_) (fun q => ?_)
        · rw [if_pos (show decide (c ∈ LET) = true from q)]
          refine ⟨_, rfl, _, e1, ?_, same_upd s1 hD _, ?_⟩
          · rw [List.length_map]
            have := List.length_filter_le (fun c => decide (c ∈ LET)) (z.cps.toList.take i)
            rw [List.length_take] at this
            exact small1000 (by omega)
          · rw [upd_same, List.map_append]; rfl
        · rw [if_neg (show ¬ decide (c ∈ LET) = true from q), List.append_nil]
          exact ⟨s1, e1⟩
      · rintro H1 ⟨s1, e1⟩
        rw [List.take_of_length_le (by rw [Array.length_toList] <;> exact Nat.le_refl _)] at e1
        refine ⟨D, _, rfl, .inl (SqL.of e1), ?_⟩
        refine ⟨_, rfl, _, rfl, big (by omega), rfl, ?_⟩
        rw [List.length_map]
        have q := k H1 s1
        rw [Bool.true_and, Bool.true_and] at q
        have e : decide (V.int ((List.filter (fun c => decide (c ∈ LET)) z.cps.toList).length : Int) = V.int (z.length : Int)) = decide (((z.cps.toList.filter fun c => decide (c ∈ LET)).length : Int) = (z.length : Int)) := decide_eq_decide.mpr ⟨fun h => V.int.inj h, fun h => by rw [h]⟩
        rw [← e] at q
        exact q
    · rw [decide_eq_false c2] at k ⊢
      refine iteF ?_
      exact k H (Same.refl H)
  · rw [decide_eq_false c1] at k ⊢
    refine iteF ⟨_, rfl, iteF ?_⟩
    exact k H (Same.refl H)
theorem ok_numL (F : Fun K "_law_number" "_law_number" s_law_number f fd) (zr : mg "range" = none) (zs : mg "str" = none) : FnOk P w K mg base CX0 1 f fd ["_law_word"] spNumL := by
  refine F.ok sc_law_number (fun vs H Q E h => ?_) (fun cdv A outer s H vs Q E hr h => ?_)
  · obtain ⟨z, rfl, _⟩ := h
    rfl
  obtain ⟨z, rfl, k⟩ := h
  have nd := sc_law_number.nd
  refine ⟨_, pss_cons (ps_for PassesOwn.never rfl (pi_range1 rfl zr (pa_cons pe_int pa_nil)) (pg_name (i := 1) nd rfl (.inl rfl))
      (pss_one (ps_if (pt_cmpR op_eq (pv 0) (pe_callTy call_str_int (by rfl) zs (by decide +kernel) (pa_cons (pv 1) pa_nil)) (nomark _)) (pss_one (ps_ret (pv 1))) pss_nil)))
    (pss_one (ps_ret (pe_un un_neg pe_int))), ?_⟩
  refine ⟨31, rfl, by decide, by decide, ?_⟩
  refine for_range (lo := 0) (n := 31) (fun i σ H' => H' = H ∧ (∃ v : Option V, σ = [some (.str z), v]) ∧ ∀ j : Nat, j < i → z ≠ tx ((0 : Int) + (j : Nat))) ⟨rfl, ⟨none, rfl⟩, fun j hj => by omega⟩ ?_ ?_
  · rintro i σ H' hi ⟨rfl, ⟨v, rfl⟩, hn⟩
    refine ⟨_, rfl, _, rfl, _, rfl, small_tx (by omega) (by omega), rfl, _, rfl, ?_⟩
    by_cases e : z = tx ((0 : Int) + (i : Nat))
    · rw [show decide (V.str z = V.str (toString ((0 : Int) + (i : Int)))) = true from decide_eq_true (by rw [e]; rfl)]
      refine iteT ⟨_, rfl, ?_⟩
      have en : numM 0 z = some ((0 : Int) + (i : Nat)) := by
        unfold numM
        rw [show (31 - (0 : Int)).toNat = 31 from rfl, find_at hi (fun j hj => decide_eq_false (hn j hj)) (decide_eq_true e)]
        rfl
      rw [en] at k
      exact k
    · rw [show decide (V.str z = V.str (toString ((0 : Int) + (i : Int)))) = false from decide_eq_false (by intro q; exact e (V.str.inj q))]
      refine iteF ⟨rfl, ⟨_, rfl⟩, fun j hj => ?_⟩
      rcases Nat.lt_succ_iff_lt_or_eq.mp hj with q | q
      · exact hn j q
      · subst q; exact e
  · rintro σ H' ⟨rfl, ⟨v, rfl⟩, hn⟩
    have en : numM 0 z = none := by
      unfold numM
      rw [show (31 - (0 : Int)).toNat = 31 from rfl, find_none fun j hj => decide_eq_false (hn j hj)]
      rfl
    rw [en] at k
    exact ⟨_, rfl, k⟩
end
end Aw

namespace Aw
open PySem L2
/-! ### one piece, as the law reads it -/
def tailM (ws : List Str) (i : Nat) : Option (T × Nat) := if nameM (wd ws i) = true then some (.name (wd ws i), i + 1) else (numM 0 (wd ws i)).map fun n => (.num n, i + 1)
theorem level_none {ws : List Str} {F : Nat → Option (T × Nat)} (h : ∀ i, F i = none) : ∀ (l : List Kd) (i : Nat), levelM ws F l i = none
  | [], i => by unfold levelM; exact h i
  | k :: r, i => by unfold levelM; rw [level_none h r i]
theorem tail_at {ws : List Str} {i : Nat} {s : Str} (e : wd ws i = s) (h1 : nameM s = false) (h2 : numM 0 s = none) : tailM ws i = none := by
  unfold tailM
  rw [e, h1, if_neg Bool.false_ne_true, h2]
  rfl
theorem tail_open {ws : List Str} {i : Nat} (e : wd ws i = "(") : tailM ws i = none := tail_at e (by decide +kernel) (by decide +kernel)
theorem tail_sq {ws : List Str} {i : Nat} (e : wd ws i = "[") : tailM ws i = none := tail_at e (by decide +kernel) (by decide +kernel)
theorem piece_tail {ws : List Str} {i d : Nat} (h1 : ¬ wd ws i = "(") (h2 : ¬ wd ws i = "[") : pieceM ws (d + 1) i = tailM ws i := by
  conv => lhs; unfold pieceM
  rw [if_neg h1, if_neg h2]
  rfl
theorem piece_open_none {ws : List Str} {i d : Nat} (h1 : wd ws i = "(") (h : levelM ws (pieceM ws d) kinds (i + 1) = none) : pieceM ws (d + 1) i = none := by
  conv => lhs; unfold pieceM
  rw [if_pos h1, h]
theorem piece_open_some {ws : List Str} {i d : Nat} {t : T} {j : Nat} (h1 : wd ws i = "(") (h : levelM ws (pieceM ws d) kinds (i + 1) = some (t, j)) : pieceM ws (d + 1) i = if wd ws j = ")" then some (t, j + 1) else none := by
  conv => lhs; unfold pieceM
  rw [if_pos h1, h]
theorem piece_sq {ws : List Str} {i d : Nat} (h1 : wd ws i = "[") : pieceM ws (d + 1) i = gateM ws (pieceM ws d) (i + 1) := by
  conv => lhs; unfold pieceM
  rw [if_neg (by rw [h1]; decide +kernel), if_pos h1]
theorem gate_f {ws : List Str} {F : Nat → Option (T × Nat)} {i : Nat} (h : F (i + 3) = none) : gateM ws F i = none := by
  unfold gateM
  split
  · split
    · rfl
    · split
      · rw [h]; rfl
      · rfl
  · rfl
theorem gate_sq {ws : List Str} {F : Nat → Option (T × Nat)} {i : Nat} (h : ¬ wd ws (i + 2) = "]") : gateM ws F i = none := by
  unfold gateM
  split
  · split
    · rfl
    · first | rfl | (rw [if_neg h])
  · rfl
theorem piece1 (ws : List Str) (i : Nat) : pieceM ws 1 i = tailM ws i := by
  by_cases c1 : wd ws i = "("
  · rw [piece_open_none c1 (level_none (fun _ => rfl) _ _), tail_open c1]
  · by_cases c2 : wd ws i = "["
    · rw [piece_sq c2, gate_f rfl, tail_sq c2]
    · exact piece_tail c1 c2
theorem piece_end {ws : List Str} {i : Nat} (h : ¬ i < ws.length) : ∀ d : Nat, pieceM ws d i = none
  | 0 => rfl
  | d + 1 => by
    have e := wd_end h
    rw [piece_tail (by rw [e]; decide +kernel) (by rw [e]; decide +kernel)]
    exact tail_at e (by decide +kernel) (by decide +kernel)
section
variable {P : Program} {w : World} {K : PySem.W.Frag} {mg : Str → Option Value} {base : Heap} {f : Addr} {fd : FuncData} {gn gu gc : Addr} {dn du dc : FuncData}
structure TxS (P : Program) (w : World) (K : PySem.W.Frag) (mg : Str → Option Value) (base : Heap) : Prop where
  len : mg "len" = none
  nm : ∃ f fd, FnOk P w K mg base CX0 1 f fd ["_law_word"] spName ∧ Binds K fd ["_law_word"] [] ∧ PySem.W.keepIn K (.ref f) = true ∧ mg "_law_is_name" = some (.ref f)
  nu : ∃ f fd, FnOk P w K mg base CX0 1 f fd ["_law_word"] spNumL ∧ Binds K fd ["_law_word"] [] ∧ PySem.W.keepIn K (.ref f) = true ∧ mg "_law_number" = some (.ref f)
theorem ok_sing0 (F : Fun K "_law_single" "_law_single" s_law_single f fd) (T : TxS P w K mg base) : FnOk P w K mg base CX0 2 f fd ["_law_words", "_law_at", "_law_deep"] (spSing 0) := by
  obtain ⟨fn, dn, Gn, bn, kn, mn⟩ := T.nm
  obtain ⟨fu, du, Gu, bu, ku, mu⟩ := T.nu
  refine F.ok sc_law_single (fun vs H Q E h => ?_) (fun cdv A outer s H vs Q E hr h => ?_)
  · obtain ⟨wl, ws, i, rfl, _⟩ := h
    rfl
  obtain ⟨wl, ws, i, rfl, hw, W, q⟩ := h
  rw [piece1] at q
  have nd := sc_law_single.nd
  refine ⟨_, pss_cons (ps_set (i := 3) nd rfl (.inl rfl) (pe_join pe_str (pe_slice sl_list (pv 0) (po_some (pv 1)) (po_some (pe_op op_add (pv 1) pe_int)))))
    (C8.pss_cut (ps_if (PW.pt (pw_and (pt_cmpR op_eq (pv 3) pe_str (nomark _)) (pw_and1 (pt_cmpR op_lt (pv 2) pe_int (nomark _))))) (pss_cons ps_never (pss_cons ps_never (pss_one ps_never))) pss_nil)
    (C8.pss_cut (ps_if (PW.pt (pw_and (pt_cmpR op_eq (pv 3) pe_str (nomark _)) (pw_and (pt_cmpR op_lt (pv 2) pe_int (nomark _)) (pw_and (pt_cmpR op_gt (pe_callB call_len_seq (by rfl) T.len PySem.boot_len (pa_cons (pv 0) pa_nil)) (pe_op op_add (pv 1) pe_int) (nomark _))
        (pw_and1 (pt_cmpR op_eq (pe_ix ix_list (pv 0) (pe_op op_add (pv 1) pe_int) (fun _ _ => rfl)) pe_str (nomark _)))))))
      (pss_cons ps_never (pss_cons ps_never (pss_cons ps_never (pss_one ps_never)))) pss_nil)
    (pss_cons (ps_if (pt_val (pe_call Gn hr rfl mn kn bn .nil pass0 (pa_cons (pv 3) pa_nil))) (pss_one (ps_ret (pe_tup (pa_cons (pe_tup (pa_cons pe_str (pa_cons (pv 3) pa_nil))) (pa_cons (pe_op op_add (pv 1) pe_int) pa_nil))))) pss_nil)
    (pss_cons (ps_if (pt_cmpR op_ge (pe_call Gu hr rfl mu ku bu .nil pass0 (pa_cons (pv 3) pa_nil)) pe_int (nomark _)) (pss_one (ps_ret (pe_tup (pa_cons (pe_tup (pa_cons pe_str (pa_cons (pe_call Gu hr rfl mu ku bu .nil pass0 (pa_cons (pv 3) pa_nil)) pa_nil))) (pa_cons (pe_op op_add (pv 1) pe_int) pa_nil))))) pss_nil)
    (pss_one (ps_ret pe_non)))))), ?_⟩
  refine ⟨⟨_, rfl⟩, _, rfl, _, rfl, _, rfl, _, rfl, _, _, rfl, rfl, _, rfl, wl, _, rfl, SqL.of hw, fun l0 hl0 => ?_⟩
  rw [cutI]
  have s1 := same_new hl0 (.lst ((sl1 ws i).map V.str))
  refine ⟨_, l0, sl1 ws i, rfl, rfl, .inl (SqL.of upd_same), sl1_len W i, ?_⟩
  rw [join1]
  have qt := q.mono s1
  have hw1 := s1 _ _ hw
  generalize upd H l0 (.lst ((sl1 ws i).map V.str)) = H1 at qt hw1 ⊢
  refine ⟨fun σ' H' => σ' = [some (.ref wl), some (.int i), some (.int (2 - ((0 : Nat) : Int))), some (.str (wd ws i)), none, none, none] ∧ H1 = H', ?_, ?_⟩
  · refine ⟨_, rfl, rfl, _, rfl, ?_⟩
    refine ite2 (fun _ => ⟨_, rfl, _, _, rfl, rfl, _, rfl, iteF ⟨rfl, rfl⟩⟩) (fun _ => ⟨rfl, rfl⟩)
  rintro σ' H' ⟨rfl, rfl⟩
  refine ⟨fun σ' H' => σ' = [some (.ref wl), some (.int i), some (.int (2 - ((0 : Nat) : Int))), some (.str (wd ws i)), none, none, none] ∧ H1 = H', ?_, ?_⟩
  · refine ⟨_, rfl, rfl, _, rfl, ?_⟩
    refine ite2 (fun _ => ⟨_, rfl, _, _, rfl, rfl, _, rfl, iteF ⟨rfl, rfl⟩⟩) (fun _ => ⟨rfl, rfl⟩)
  rintro σ' H' ⟨rfl, rfl⟩
  unfold tailM at qt
  refine ⟨_, rfl, wd ws i, rfl, W.wd i, fun H2 s2 => ⟨_, rfl, ?_⟩⟩
  have qt := qt.mono s2
  by_cases c : nameM (wd ws i) = true
  · rw [if_pos c] at qt
    rw [c]
    refine iteT ⟨_, rfl, (by show 2 ≤ sizeLine; decide), fun p hp => ⟨_, rfl, _, _, rfl, rfl, (by show 2 ≤ sizeLine; decide), fun a ha => ?_⟩⟩
    have np : p ≠ a := ne_of_none upd_same ha
    exact qt a (.ref p) _ ((same_new hp _).trans (same_new ha _)) ((same_new hp _).free ha) (by rw [upd_same]; rfl) (.name (fresh_at hp (by rw [upd_ne np]; exact upd_same)))
  · rw [if_neg c] at qt
    rw [Bool.eq_false_iff.mpr c]
    refine iteF ⟨_, rfl, wd ws i, rfl, _, _, rfl, rfl, _, rfl, ?_⟩
    cases e : numM 0 (wd ws i) with
    | none =>
      rw [e] at qt
      exact iteF (qt H2 (Same.refl H2))
    | some n =>
      rw [e] at qt
      have hn := (numM_some e).1
      rw [show decide ((0 : Int) ≤ (some n).getD (-1)) = true from decide_eq_true hn]
      refine iteT ⟨_, rfl, wd ws i, rfl, (by show 2 ≤ sizeLine; decide), fun p hp => ⟨_, rfl, _, _, rfl, rfl, (by show 2 ≤ sizeLine; decide), fun a ha => ?_⟩⟩
      have np : p ≠ a := ne_of_none upd_same ha
      exact qt a (.ref p) _ ((same_new hp _).trans (same_new ha _)) ((same_new hp _).free ha) (by rw [upd_same]; rfl) (.num (fresh_at hp (by rw [upd_ne np, e]; exact upd_same)))
end
end Aw

namespace Aw
open PySem L2
theorem atw {ws : List Str} {i : Nat} (h : i < ws.length) {z : Int} (hz : z = ((i : Nat) : Int)) : atI (ws.map V.str) z = some (.str (wd ws i)) := by
  subst hz
  exact atI_nat (by rw [List.getElem?_map, wd_get h]; rfl)
theorem gate_eval {ws : List Str} {F : Nat → Option (T × Nat)} {i : Nat} {b : Int} {t : T} {j : Nat} (h3 : wd ws (i + 3) = "]") (hb : numM 1 (wd ws (i + 2)) = some b) (hn : nameM (wd ws (i + 1)) = true) (hF : F (i + 4) = some (t, j)) : gateM ws F (i + 1) = some (.gate (wd ws (i + 1)) b t, j) := by
  unfold gateM
  rw [if_pos hn, show wd ws (i + 1 + 1) = wd ws (i + 2) from rfl, hb]
  dsimp only
  rw [if_pos (show wd ws (i + 1 + 2) = "]" from h3), show F (i + 1 + 3) = some (t, j) from hF]
  rfl
theorem gate_nob {ws : List Str} {F : Nat → Option (T × Nat)} {i : Nat} (hb : numM 1 (wd ws (i + 2)) = none) : gateM ws F (i + 1) = none := by
  unfold gateM
  split
  · rw [show wd ws (i + 1 + 1) = wd ws (i + 2) from rfl, hb]
  · rfl
theorem gate_nonm {ws : List Str} {F : Nat → Option (T × Nat)} {i : Nat} (hn : nameM (wd ws (i + 1)) = false) : gateM ws F (i + 1) = none := by
  unfold gateM
  rw [hn, if_neg Bool.false_ne_true]
section
variable {P : Program} {w : World} {K : PySem.W.Frag} {mg : Str → Option Value} {base : Heap} {f : Addr} {fd : FuncData}
theorem ok_singS {d k : Nat} (hd : d ≤ 1) (hk : 2 ≤ k) {g : Addr} {gd : FuncData} (F : Fun K "_law_single" "_law_single" s_law_single f fd) (T : TxS P w K mg base)
    (GS : FnOk P w K mg base CX0 k f fd ["_law_words", "_law_at", "_law_deep"] (spSing d)) (bS : Binds K fd ["_law_words", "_law_at", "_law_deep"] []) (mS : mg "_law_single" = some (.ref f))
    (GC : FnOk P w K mg base CX0 k g gd ["_law_words", "_law_at", "_law_deep", "_law_rank"] (spChain d 1)) (bC : Binds K gd ["_law_words", "_law_at", "_law_deep", "_law_rank"] []) (kC : PySem.W.keepIn K (.ref g) = true) (mC : mg "_law_chain" = some (.ref g)) :
    FnOk P w K mg base CX0 (k + 1) f fd ["_law_words", "_law_at", "_law_deep"] (spSing (d + 1)) := by
  obtain ⟨fn, dn, Gn, bn, kn, mn⟩ := T.nm
  obtain ⟨fu, du, Gu, bu, ku, mu⟩ := T.nu
  refine F.ok sc_law_single (fun vs H Q E h => ?_) (fun cdv A outer s H vs Q E hr h => ?_)
  · obtain ⟨wl, ws, i, rfl, _⟩ := h
    rfl
  obtain ⟨wl, ws, i, rfl, hw, W, q⟩ := h
  have nd := sc_law_single.nd
  have hr1 : Room 1 _ := hr.mono (by omega)
  have GSe : FnOk P w K mg base CX0 k f fd ["_law_words", "_law_at", "_law_deep"] (spSing d) := GS
  refine ⟨_, pss_cons (ps_set (i := 3) nd rfl (.inl rfl) (pe_join pe_str (pe_slice sl_list (pv 0) (po_some (pv 1)) (po_some (pe_op op_add (pv 1) pe_int)))))
    (C8.pss_cut (ps_if (PW.pt (pw_and (pt_cmpR op_eq (pv 3) pe_str (nomark _)) (pw_and1 (pt_cmpR op_lt (pv 2) pe_int (nomark _)))))
      (pss_cons (ps_set (i := 4) nd rfl (.inl rfl) (pe_call GC hr rfl mC kC bC .nil pass0 (pa_cons (pv 0) (pa_cons (pe_op op_add (pv 1) pe_int) (pa_cons (pe_op op_add (pv 2) pe_int) (pa_cons pe_int pa_nil))))))
      (pss_cons (ps_if (PW.pt (pw_or (pt_cmpR op_isN (pv 4) pe_non (nomark _)) (pw_or1 (pt_cmpR (op_neD hr.units) (pe_slice sl_list (pv 0) (po_some (pe_ix ix_tup (pv 4) pe_int (fun _ _ => rfl))) (po_some (pe_op op_add (pe_ix ix_tup (pv 4) pe_int (fun _ _ => rfl)) pe_int))) (pe_lst (pa_cons pe_str pa_nil)) (nomark _)))))
        (pss_one (ps_ret pe_non)) pss_nil)
      (pss_one (ps_ret (pe_tup (pa_cons (pe_ix ix_tup (pv 4) pe_int (fun _ _ => rfl)) (pa_cons (pe_op op_add (pe_ix ix_tup (pv 4) pe_int (fun _ _ => rfl)) pe_int) pa_nil))))))) pss_nil)
    (C8.pss_cut (ps_if (PW.pt (pw_and (pt_cmpR op_eq (pv 3) pe_str (nomark _)) (pw_and (pt_cmpR op_lt (pv 2) pe_int (nomark _)) (pw_and (pt_cmpR op_gt (pe_callB call_len_seq (by rfl) T.len PySem.boot_len (pa_cons (pv 0) pa_nil)) (pe_op op_add (pv 1) pe_int) (nomark _))
        (pw_and1 (pt_cmpR op_eq (pe_ix ix_list (pv 0) (pe_op op_add (pv 1) pe_int) (fun _ _ => rfl)) pe_str (nomark _)))))))
      (pss_cons (ps_set (i := 5) nd rfl (.inl rfl) (pe_call GSe hr rfl mS F.kp bS .nil pass0 (pa_cons (pv 0) (pa_cons (pe_op op_add (pv 1) pe_int) (pa_cons (pe_op op_add (pv 2) pe_int) pa_nil)))))
      (pss_cons (ps_set (i := 6) nd rfl (.inl rfl) (pe_call Gu hr1 rfl mu ku bu .nil pass0 (pa_cons (pe_ix ix_list (pv 0) (pe_op op_add (pv 1) pe_int) (fun _ _ => rfl)) pa_nil)))
      (pss_cons (ps_if (PW.pt (pw_or (pt_cmpR op_isN (pv 5) pe_non (nomark _)) (pw_or (pt_cmpR op_lt (pv 6) pe_int (nomark _)) (pw_or1 (pt_not (pt_val (pe_call Gn hr1 rfl mn kn bn .nil pass0 (pa_cons (pe_ix ix_list (pv 0) (pe_op op_add (pv 1) pe_int) (fun _ _ => rfl)) pa_nil))))))))
        (pss_one (ps_ret pe_non)) pss_nil)
      (pss_one (ps_ret (pe_tup (pa_cons (pe_tup (pa_cons pe_str (pa_cons (pe_ix ix_list (pv 0) (pe_op op_add (pv 1) pe_int) (fun _ _ => rfl)) (pa_cons (pv 6) (pa_cons (pe_ix ix_tup (pv 5) pe_int (fun _ _ => rfl)) pa_nil))))) (pa_cons (pe_ix ix_tup (pv 5) pe_int (fun _ _ => rfl)) pa_nil)))))))) pss_nil)
    (pss_cons (ps_if (pt_val (pe_call Gn hr1 rfl mn kn bn .nil pass0 (pa_cons (pv 3) pa_nil))) (pss_one (ps_ret (pe_tup (pa_cons (pe_tup (pa_cons pe_str (pa_cons (pv 3) pa_nil))) (pa_cons (pe_op op_add (pv 1) pe_int) pa_nil))))) pss_nil)
    (pss_cons (ps_if (pt_cmpR op_ge (pe_call Gu hr1 rfl mu ku bu .nil pass0 (pa_cons (pv 3) pa_nil)) pe_int (nomark _)) (pss_one (ps_ret (pe_tup (pa_cons (pe_tup (pa_cons pe_str (pa_cons (pe_call Gu hr1 rfl mu ku bu .nil pass0 (pa_cons (pv 3) pa_nil)) pa_nil))) (pa_cons (pe_op op_add (pv 1) pe_int) pa_nil))))) pss_nil)
    (pss_one (ps_ret pe_non)))))), ?_⟩
  refine ⟨⟨_, rfl⟩, _, rfl, _, rfl, _, rfl, _, rfl, _, _, rfl, rfl, _, rfl, wl, _, rfl, SqL.of hw, fun l0 hl0 => ?_⟩
  rw [cutI]
  have s1 := same_new hl0 (.lst ((sl1 ws i).map V.str))
  refine ⟨_, l0, sl1 ws i, rfl, rfl, .inl (SqL.of upd_same), sl1_len W i, ?_⟩
  rw [join1]
  have qt := q.mono s1
  have hw1 := s1 _ _ hw
  have dl : decide ((2 : Int) - ((d + 1 : Nat) : Int) < 2) = true := decide_eq_true (by omega)
  have d1 : (2 : Int) - ((d + 1 : Nat) : Int) + 1 = 2 - (d : Int) := by omega
  generalize upd H l0 (.lst ((sl1 ws i).map V.str)) = H1 at qt hw1 ⊢
  refine ⟨fun σ' H' => σ' = [some (.ref wl), some (.int i), some (.int (2 - ((d + 1 : Nat) : Int))), some (.str (wd ws i)), none, none, none] ∧ H1 = H' ∧ ¬ wd ws i = "(", ?_, ?_⟩
  · refine ⟨_, rfl, rfl, _, rfl, ?_⟩
    rw [str_dec]
    by_cases c1 : wd ws i = "("
    · rw [decide_eq_true c1]
      refine iteT ⟨_, rfl, _, _, rfl, rfl, _, rfl, ?_⟩
      rw [dl]
      refine iteT ?_
      refine ⟨_, rfl, _, rfl, _, _, rfl, rfl, _, rfl, _, _, rfl, rfl, wl, ws, i + 1, (by show [V.ref wl, V.int (((i + 1 : Nat)) : Int), V.int ((2 : Int) - ((d + 1 : Nat) : Int) + 1), V.int 1] = _; rw [d1]; rfl), hw1, W, ?_⟩
      cases e : levelM ws (pieceM ws (d + 1)) (ks 1) (i + 1) with
      | none =>
        rw [piece_open_none c1 e] at qt
        intro H2 s2
        exact ⟨_, rfl, rfl, _, rfl, iteT (qt H2 s2)⟩
      | some r =>
        obtain ⟨t, j⟩ := r
        rw [piece_open_some c1 e] at qt
        intro a v H2 s2 hn2 e2 lv
        refine ⟨_, rfl, rfl, _, rfl, ?_⟩
        rw [show decide (V.ref a = V.non) = false from rfl]
        refine iteF ?_
        refine ⟨_, rfl, _, rfl, a, _, _, _, rfl, rfl, SqT.of e2, rfl, _, rfl, _, rfl, a, _, _, _, rfl, rfl, SqT.of e2, rfl, _, _, rfl, rfl, _, rfl, wl, _, rfl, SqL.of (s2 _ _ hw1), fun l1 hl1 => ?_⟩
        rw [cutI]
        have s3 := same_new hl1 (.lst ((sl1 ws j).map V.str))
        refine ⟨(by show 1 ≤ sizeLine; decide), fun l2 hl2 => ?_⟩
        have s4 := same_new hl2 (.lst [.str ")"])
        have okp : ∀ s ∈ ([(")" : Str)] : List Str), PyData.strOk s = true := by decide +kernel
        refine ⟨_, _, .lst (SqL.of (s4 _ _ upd_same)) (dp_strs _), .lst (SqL.of upd_same) (dp_strs [(")" : Str)]), shaped_ok (sl1_ok W j), shaped_ok okp, _, rfl, ?_⟩
        rw [show PyData.eqv (.list ((sl1 ws j).map PyData.str)) (.list (([(")" : Str)] : List Str).map PyData.str)) = decide (wd ws j = ")") from eqv1 ws j (by decide +kernel)]
        have s24 := (s2.trans s3).trans s4
        have e24 := s4 _ _ (s3 _ _ e2)
        by_cases c2 : wd ws j = ")"
        · rw [if_pos c2] at qt
          rw [decide_eq_true c2]
          refine iteF ?_
          refine ⟨_, rfl, a, _, _, _, rfl, rfl, SqT.of e24, rfl, _, rfl, a, _, _, _, rfl, rfl, SqT.of e24, rfl, _, _, rfl, rfl, (by show 2 ≤ sizeLine; decide), fun p hp => ?_⟩
          have s5 := same_new hp (.tup [v, .int ((j : Int) + 1)])
          refine qt p v _ (s24.trans s5) (s24.free hp) (by rw [upd_same]; rfl) (lv.mono (.of_same fun b o hb => ?_))
          obtain ⟨z1, z2⟩ := fresh_inv hb
          exact fresh_at z1 (s5 _ _ (s4 _ _ (s3 _ _ z2)))
        · rw [if_neg c2] at qt
          rw [decide_eq_false c2]
          exact iteT (qt _ s24)
    · rw [decide_eq_false c1]
      exact iteF ⟨rfl, rfl, c1⟩
  rintro σ' H' ⟨rfl, rfl, c1⟩
  refine ⟨fun σ' H' => σ' = [some (.ref wl), some (.int i), some (.int (2 - ((d + 1 : Nat) : Int))), some (.str (wd ws i)), none, none, none] ∧ H1 = H' ∧ pieceM ws (d + 1 + 1) i = tailM ws i, ?_, ?_⟩
  · refine ⟨_, rfl, rfl, _, rfl, ?_⟩
    rw [str_dec]
    by_cases c2 : wd ws i = "["
    · rw [decide_eq_true c2]
      rw [piece_sq c2] at qt ⊢
      refine iteT ⟨_, rfl, _, _, rfl, rfl, _, rfl, ?_⟩
      rw [dl]
      refine iteT ⟨_, rfl, wl, _, rfl, .inl (SqL.of hw1), _, rfl, _, _, rfl, rfl, _, _, rfl, rfl, _, rfl, ?_⟩
      rw [List.length_map]
      by_cases c3 : i + 4 < ws.length
      · rw [show decide ((i : Int) + 4 < (ws.length : Int)) = true from decide_eq_true (by omega)]
        refine iteT ⟨_, rfl, _, rfl, _, _, rfl, rfl, wl, _, _, _, rfl, rfl, SqL.of hw1, atw (i := i + 3) (by omega) rfl, rfl, _, rfl, ?_⟩
        rw [str_dec]
        by_cases c4 : wd ws (i + 3) = "]"
        · rw [decide_eq_true c4]
          refine iteT ?_
          refine ⟨_, rfl, _, rfl, _, _, rfl, rfl, _, rfl, _, _, rfl, rfl, wl, ws, i + 4, (by show [V.ref wl, V.int (((i + 4 : Nat)) : Int), V.int ((2 : Int) - ((d + 1 : Nat) : Int) + 1)] = _; rw [d1]), hw1, W, ?_⟩
          cases e : pieceM ws (d + 1) (i + 4) with
          | none =>
            rw [gate_f e] at qt
            intro H2 s2
            refine ⟨_, rfl, _, rfl, _, _, rfl, rfl, wl, _, _, _, rfl, rfl, SqL.of (s2 _ _ hw1), atw (i := i + 2) (by omega) rfl, wd ws (i + 2), rfl, ?_⟩
            exact ⟨_, rfl, rfl, _, rfl, iteT (qt H2 s2)⟩
          | some r =>
            obtain ⟨t, j⟩ := r
            intro a v H2 s2 hn2 e2 lv
            have hw2 := s2 _ _ hw1
            refine ⟨_, rfl, _, rfl, _, _, rfl, rfl, wl, _, _, _, rfl, rfl, SqL.of hw2, atw (i := i + 2) (by omega) rfl, wd ws (i + 2), rfl, ?_⟩
            refine ⟨_, rfl, rfl, _, rfl, ?_⟩
            rw [show decide (V.ref a = V.non) = false from rfl]
            refine iteF ⟨_, rfl, _, _, rfl, rfl, _, rfl, ?_⟩
            cases eb : numM 1 (wd ws (i + 2)) with
            | none =>
              rw [gate_nob eb] at qt
              have lt : decide ((numM 0 (wd ws (i + 2))).getD (-1) < 1) = true := by
                refine decide_eq_true ?_
                cases e0 : numM 0 (wd ws (i + 2)) with
                | none => show (-1 : Int) < 1; decide
                | some n =>
                  show n < 1
                  rcases Int.lt_or_le n 1 with z | z
                  · exact z
                  · rw [numM_of e0 z] at eb; cases eb
              rw [lt]
              exact iteT (qt H2 s2)
            | some b =>
              have e0 := numM_one eb
              have b1 := (numM_some eb).1
              rw [e0, show decide ((some b).getD (-1) < (1 : Int)) = false from decide_eq_false (by show ¬ b < 1; omega)]
              refine iteF ⟨_, rfl, _, rfl, _, _, rfl, rfl, wl, _, _, _, rfl, rfl, SqL.of hw2, atw (i := i + 1) (by omega) rfl, wd ws (i + 1), rfl, W.wd (i + 1), fun H3 s3 => ⟨_, rfl, ?_⟩⟩
              cases en : nameM (wd ws (i + 1)) with
              | false =>
                rw [gate_nonm en] at qt
                exact iteT (qt H3 (s2.trans s3))
              | true =>
                rw [gate_eval c4 eb en e] at qt
                refine iteF ?_
                have e3 := s3 _ _ e2
                refine ⟨_, rfl, _, rfl, _, _, rfl, rfl, wl, _, _, _, rfl, rfl, SqL.of (s3 _ _ hw2), atw (i := i + 1) (by omega) rfl, _, rfl, _, rfl, a, _, _, _, rfl, rfl, SqT.of e3, rfl, (by show 4 ≤ sizeLine; decide), fun p hp => ?_⟩
                have s4 := same_new hp (.tup [.str "gate", .str (wd ws (i + 1)), .int b, v])
                refine ⟨_, rfl, a, _, _, _, rfl, rfl, SqT.of (s4 _ _ e3), rfl, (by show 2 ≤ sizeLine; decide), fun a2 ha2 => ?_⟩
                have np : p ≠ a2 := ne_of_none upd_same ha2
                have s5 := same_new ha2 (.tup [.ref p, .int (j : Int)])
                have s25 := ((s2.trans s3).trans s4).trans s5
                refine qt a2 (.ref p) _ s25 (((s2.trans s3).trans s4).free ha2) upd_same (.gate (v := v) (fresh_at ((s2.trans s3).free hp) (by rw [upd_ne np]; exact upd_same)) (lv.mono (.of_same fun b o hb => ?_)))
                obtain ⟨z1, z2⟩ := fresh_inv hb
                exact fresh_at z1 (s5 _ _ (s4 _ _ (s3 _ _ z2)))
        · rw [decide_eq_false c4]
          exact iteF ⟨rfl, rfl, by rw [gate_sq c4, tail_sq c2]⟩
      · rw [show decide ((i : Int) + 4 < (ws.length : Int)) = false from decide_eq_false (by omega)]
        exact iteF ⟨rfl, rfl, by rw [gate_f (piece_end c3 _), tail_sq c2]⟩
    · rw [decide_eq_false c2]
      exact iteF ⟨rfl, rfl, piece_tail c1 c2⟩
  rintro σ' H' ⟨rfl, rfl, ep⟩
  rw [ep] at qt
  unfold tailM at qt
  refine ⟨_, rfl, wd ws i, rfl, W.wd i, fun H2 s2 => ⟨_, rfl, ?_⟩⟩
  have qt := qt.mono s2
  by_cases c : nameM (wd ws i) = true
  · rw [if_pos c] at qt
    rw [c]
    refine iteT ⟨_, rfl, (by show 2 ≤ sizeLine; decide), fun p hp => ⟨_, rfl, _, _, rfl, rfl, (by show 2 ≤ sizeLine; decide), fun a ha => ?_⟩⟩
    have np : p ≠ a := ne_of_none upd_same ha
    exact qt a (.ref p) _ ((same_new hp _).trans (same_new ha _)) ((same_new hp _).free ha) (by rw [upd_same]; rfl) (.name (fresh_at hp (by rw [upd_ne np]; exact upd_same)))
  · rw [if_neg c] at qt
    rw [Bool.eq_false_iff.mpr c]
    refine iteF ⟨_, rfl, wd ws i, rfl, _, _, rfl, rfl, _, rfl, ?_⟩
    cases e : numM 0 (wd ws i) with
    | none =>
      rw [e] at qt
      exact iteF (qt H2 (Same.refl H2))
    | some n =>
      rw [e] at qt
      have hn := (numM_some e).1
      rw [show decide ((0 : Int) ≤ (some n).getD (-1)) = true from decide_eq_true hn]
      refine iteT ⟨_, rfl, wd ws i, rfl, (by show 2 ≤ sizeLine; decide), fun p hp => ⟨_, rfl, _, _, rfl, rfl, (by show 2 ≤ sizeLine; decide), fun a ha => ?_⟩⟩
      have np : p ≠ a := ne_of_none upd_same ha
      exact qt a (.ref p) _ ((same_new hp _).trans (same_new ha _)) ((same_new hp _).free ha) (by rw [upd_same]; rfl) (.num (fresh_at hp (by rw [upd_ne np, e]; exact upd_same)))
end
end Aw

namespace Aw
open PySem L2
/-! ### a chain of pieces, as the law reads it -/
/-- what is left of a chain: the pieces so far, the next piece's reading -/
def contM (ws : List Str) (F : Nat → Option (T × Nat)) (k : Kd) (n : Nat) (ts : List T) : Option (T × Nat) → Option (T × Nat)
  | none => none
  | some (t, j) => match chainM ws F k.sg n (ts ++ [t]) j with
    | none => none
    | some (ts', j') => (joinM k ts').map fun t => (t, j')
theorem level_cont {ws : List Str} {F : Nat → Option (T × Nat)} {k : Kd} {rest : List Kd} {i : Nat} : levelM ws F (k :: rest) i = contM ws (levelM ws F rest) k (ws.length + 1) [] (levelM ws F rest i) := by
  conv => lhs; unfold levelM
  unfold contM
  cases levelM ws F rest i with
  | none => rfl
  | some r =>
    obtain ⟨t, j⟩ := r
    rfl
theorem cont_more {ws : List Str} {F : Nat → Option (T × Nat)} {k : Kd} {n : Nat} {ts : List T} {t : T} {j : Nat} (h : wd ws j = k.sg) : contM ws F k (n + 1) ts (some (t, j)) = contM ws F k n (ts ++ [t]) (F (j + 1)) := by
  conv => lhs; unfold contM
  conv => lhs; unfold chainM
  dsimp only
  rw [if_pos h]
  unfold contM
  cases F (j + 1) with
  | none => rfl
  | some r =>
    obtain ⟨t, j⟩ := r
    rfl
theorem cont_stop {ws : List Str} {F : Nat → Option (T × Nat)} {k : Kd} {n : Nat} {ts : List T} {t : T} {j : Nat} (h : ¬ wd ws j = k.sg) : contM ws F k (n + 1) ts (some (t, j)) = (joinM k (ts ++ [t])).map fun t => (t, j) := by
  conv => lhs; unfold contM
  conv => lhs; unfold chainM
  dsimp only
  rw [if_neg h]
theorem join_one (k : Kd) (t : T) : joinM k [t] = some t := rfl
theorem join_many {k : Kd} {ts : List T} (h2 : 2 ≤ ts.length) (h8 : ts.length ≤ 8) : joinM k ts = some (.join k ts) := by
  unfold joinM
  rw [if_neg (by omega)]
  match ts, h2 with
  | _ :: _ :: _, _ => rfl
theorem join_none {k : Kd} {ts : List T} (h : 8 < ts.length) : joinM k ts = none := by
  unfold joinM
  rw [if_pos h]
theorem level_at {ws : List Str} {D : Nat} : ∀ f : Nat, 2 ≤ f → f ≤ 4 → ∀ i t j, levelM ws (pieceM ws D) (ks f) i = some (t, j) → Rd1 ws D f i t j
  | 4, _, _ => fun i t j h => by
    unfold ks at h
    unfold levelM at h
    exact piece_fit D i t j h
  | 3, _, _ => step_fit (k := .sum) fun i t j h => by
    unfold levelM at h
    exact piece_fit D i t j h
  | 2, _, _ => step_fit (k := .least) (step_fit (k := .sum) fun i t j h => by
    unfold levelM at h
    exact piece_fit D i t j h)
  | 0, h, _ => absurd h (by decide)
  | 1, h, _ => absurd h (by decide)
  | n + 5, _, h => absurd h (by omega)
/-- what found holds -/
def Fnd (G : Hp) (v : V) : Option (T × Nat) → Prop
  | none => v = .non
  | some (t, j) => ∃ (a : Addr) (tv : V), v = .ref a ∧ G a = some (.tup [tv, .int ((j : Nat) : Int)]) ∧ LA G tv t
theorem Fnd.mono {G G' : Hp} {v : V} (s : Same G G') : ∀ {o : Option (T × Nat)}, Fnd G v o → Fnd G' v o
  | none, h => h
  | some (t, j), ⟨a, tv, e, h, l⟩ => ⟨a, tv, e, s _ _ h, l.mono (.of_same s)⟩
theorem hide_at {D b : Addr} {G : Hp} {o : HO} (n : b ≠ D) (e : G b = some o) : hide D G b = some o := by
  unfold hide
  rw [if_neg n]
  exact e
theorem hide_inv {D b : Addr} {G : Hp} {o : HO} (e : hide D G b = some o) : b ≠ D ∧ G b = some o := by
  unfold hide at e
  by_cases n : b = D
  · rw [if_pos n] at e; cases e
  · rw [if_neg n] at e; exact ⟨n, e⟩
/-- the kind of a rank -/
structure RkOk (r : Nat) (k : Kd) : Prop where
  lo : 1 ≤ r
  hi : r ≤ 3
  ks : ks r = k :: ks (r + 1)
  sg : atI ([.str "", .str "|", .str "&", .str "+"] : List V) (r : Int) = some (.str k.sg)
  nm : atI ([.str "", .str "most", .str "least", .str "sum"] : List V) (r : Int) = some (.str k.nm)
  ok : PyData.strOk k.sg = true
  ne4 : ¬ r = 4
section
variable {P : Program} {w : World} {K : PySem.W.Frag} {mg : Str → Option Value} {base : Heap} {f : Addr} {fd : FuncData}
theorem ok_chain4 {d k : Nat} {g : Addr} {gd : FuncData} (F : Fun K "_law_chain" "_law_chain" s_law_chain f fd)
    (GS : FnOk P w K mg base CX0 k g gd ["_law_words", "_law_at", "_law_deep"] (spSing d)) (bS : Binds K gd ["_law_words", "_law_at", "_law_deep"] []) (kS : PySem.W.keepIn K (.ref g) = true) (mS : mg "_law_single" = some (.ref g)) :
    FnOk P w K mg base CX0 (k + 1) f fd ["_law_words", "_law_at", "_law_deep", "_law_rank"] (spChain d 4) := by
  refine F.ok sc_law_chain (fun vs H Q E h => ?_) (fun cdv A outer s H vs Q E hr h => ?_)
  · obtain ⟨wl, ws, i, rfl, _⟩ := h
    rfl
  obtain ⟨wl, ws, i, rfl, hw, W, q⟩ := h
  have nd := sc_law_chain.nd
  refine ⟨_, pss_cons (ps_if (pt_cmpR op_eq (pv 3) pe_int (nomark _)) (pss_one (ps_ret (pe_call GS hr rfl mS kS bS .nil pass0 (pa_cons (pv 0) (pa_cons (pv 1) (pa_cons (pv 2) pa_nil)))))) pss_nil)
    (pss_cons ps_never (pss_cons ps_never (pss_cons ps_never (pss_one ps_never)))), ?_⟩
  refine ⟨_, rfl, rfl, _, rfl, iteT ⟨_, rfl, _, rfl, _, rfl, wl, ws, i, rfl, hw, W, ?_⟩⟩
  unfold ks at q
  unfold levelM at q
  exact q
theorem ok_chainR {d r k : Nat} (hk : 1 ≤ k) {kd : Kd} (R : RkOk r kd) (F : Fun K "_law_chain" "_law_chain" s_law_chain f fd) (zl : mg "len" = none)
    (GC : FnOk P w K mg base CX0 k f fd ["_law_words", "_law_at", "_law_deep", "_law_rank"] (spChain d (r + 1))) (bC : Binds K fd ["_law_words", "_law_at", "_law_deep", "_law_rank"] []) (mC : mg "_law_chain" = some (.ref f)) :
    FnOk P w K mg base CX0 (k + 1) f fd ["_law_words", "_law_at", "_law_deep", "_law_rank"] (spChain d r) := by
  refine F.ok sc_law_chain (fun vs H Q E h => ?_) (fun cdv A outer s H vs Q E hr h => ?_)
  · obtain ⟨wl, ws, i, rfl, _⟩ := h
    rfl
  obtain ⟨wl, ws, i, rfl, hw, W, q⟩ := h
  rw [R.ks, level_cont] at q
  have hF : ∀ i t j, levelM ws (pieceM ws (d + 1)) (ks (r + 1)) i = some (t, j) → i < j ∧ j ≤ ws.length := fun i t j e => by
    have z := level_at (ws := ws) (D := d + 1) (r + 1) (by have := R.lo; omega) (by have := R.hi; omega) i t j e
    exact ⟨z.lt, z.le⟩
  obtain ⟨G, hG⟩ : ∃ G : Nat → Option (Aw.T × Nat), G = levelM ws (pieceM ws (d + 1)) (ks (r + 1)) := ⟨_, rfl⟩
  rw [← hG] at q hF
  have nd := sc_law_chain.nd
  have GCe : FnOk P w K mg base CX0 k f fd ["_law_words", "_law_at", "_law_deep", "_law_rank"] (spChain d (r + 1)) := GC
  refine ⟨_, pss_cons (ps_if (pt_cmpR op_eq (pv 3) pe_int (nomark _)) (pss_one ps_never) pss_nil)
    (C8.pss_cut (ps_set (i := 4) nd rfl (.inl rfl) (pe_call GCe hr rfl mC F.kp bC .nil pass0 (pa_cons (pv 0) (pa_cons (pv 1) (pa_cons (pv 2) (pa_cons (pe_op op_add (pv 3) pe_int) pa_nil))))))
    (pss_cons (ps_set (i := 5) nd rfl (.inl rfl) (pe_lst pa_nil))
    (pss_cons (ps_while PassesOwn.never (pt_cmpR op_notN (pv 4) pe_non (nomark _))
      (pss_cons (ps_expr (pe_bm PySem.F.plainAttrs_list PySem.F.slot_list_append PySem.F.type_list_append mt_append (pv 5) (pa_cons (pe_ix ix_tup (pv 4) pe_int (fun _ _ => rfl)) pa_nil)))
      (pss_cons (ps_if (pt_cmpR (op_neD hr.units) (pe_slice sl_list (pv 0) (po_some (pe_ix ix_tup (pv 4) pe_int (fun _ _ => rfl))) (po_some (pe_op op_add (pe_ix ix_tup (pv 4) pe_int (fun _ _ => rfl)) pe_int)))
          (pe_lst (pa_cons (pe_ix ix_list (pe_lst (pa_cons pe_str (pa_cons pe_str (pa_cons pe_str (pa_cons pe_str pa_nil))))) (pv 3) (fun _ _ => rfl)) pa_nil)) (nomark _))
        (pss_cons (ps_if (pt_cmpR op_eq (pe_callB call_len_seq (by rfl) zl PySem.boot_len (pa_cons (pv 5) pa_nil)) pe_int (nomark _)) (pss_one (ps_ret (pv 4))) pss_nil)
        (pss_cons (ps_if (pt_cmpR op_gt (pe_callB call_len_seq (by rfl) zl PySem.boot_len (pa_cons (pv 5) pa_nil)) pe_int (nomark _)) (pss_one (ps_ret pe_non)) pss_nil)
        (pss_one (ps_ret (pe_tup (pa_cons (pe_tup (pa_cons (pe_ix ix_list (pe_lst (pa_cons pe_str (pa_cons pe_str (pa_cons pe_str (pa_cons pe_str pa_nil))))) (pv 3) (fun _ _ => rfl)) (pa_cons (pv 5) pa_nil))) (pa_cons (pe_ix ix_tup (pv 4) pe_int (fun _ _ => rfl)) pa_nil))))))) pss_nil)
      (pss_one (ps_set (i := 4) nd rfl (.inl rfl) (pe_call GCe hr rfl mC F.kp bC .nil pass0 (pa_cons (pv 0) (pa_cons (pe_op op_add (pe_ix ix_tup (pv 4) pe_int (fun _ _ => rfl)) pe_int) (pa_cons (pv 2) (pa_cons (pe_op op_add (pv 3) pe_int) pa_nil))))))))))
    (pss_one (ps_ret pe_non))))), ?_⟩
  refine ⟨_, rfl, rfl, _, rfl, ?_⟩
  rw [show decide (V.int ((r : Nat) : Int) = V.int 4) = false from decide_eq_false (by intro z; have := V.int.inj z; have := R.ne4; omega)]
  refine iteF ?_
  refine ⟨fun σ' H' => ∃ v : V, σ' = [some (.ref wl), some (.int i), some (.int (2 - (d : Int))), some (.int ((r : Nat) : Int)), some v, none] ∧ Same H H' ∧ Fnd (fresh H H') v (G i), ?_, ?_⟩
  · refine ⟨_, rfl, _, rfl, _, rfl, _, rfl, _, _, rfl, rfl, wl, ws, i, rfl, hw, W, ?_⟩
    rw [← hG]
    cases e : G i with
    | none => exact fun H1 s1 => ⟨.non, rfl, s1, rfl⟩
    | some x =>
      obtain ⟨t, j⟩ := x
      exact fun a v H1 s1 hn e1 lv => ⟨.ref a, rfl, s1, a, v, rfl, fresh_at hn e1, lv⟩
  rintro σ' H0 ⟨v0, rfl, s0, fnd0⟩
  refine ⟨(by show 0 ≤ sizeLine; decide), fun D hD => ?_⟩
  have hDH : H D = none := s0.free hD
  have nwD : wl ≠ D := ne_of_none hw hDH
  refine ⟨fun m σ H' => ∃ (n : Nat) (ts : List Aw.T) (vs : List V) (o : Option (Aw.T × Nat)) (v : V), m = n ∧ σ = [some (.ref wl), some (.int i), some (.int (2 - (d : Int))), some (.int ((r : Nat) : Int)), some v, some (.ref D)] ∧ Same H H' ∧ H' D = some (.lst vs) ∧ LAs (hide D (fresh H H')) vs ts ∧
      Fnd (hide D (fresh H H')) v o ∧ LOut H Q (contM ws G kd n ts o) ∧ (∀ t j, o = some (t, j) → ws.length < n + j ∧ j ≤ ws.length) ∧ ts.length + n ≤ ws.length + 1,
    ⟨ws.length + 1, ws.length + 1, [], [], G i, v0, rfl, rfl, s0.trans (same_new hD _), upd_same, .nil, fnd0.mono fun b o hb => ?_, q, fun t j e => ?_, by simp⟩, ?_⟩
  · obtain ⟨z1, z2⟩ := fresh_inv hb
    have nb : b ≠ D := ne_of_none z2 hD
    exact hide_at nb (fresh_at z1 (by rw [upd_ne nb]; exact z2))
  · have := hF i t j (by first | exact e | (rw [← hG]; exact e))
    omega
  rintro m σ H1 ⟨n, ts, vs, o, v, rfl, rfl, s1, eD, lvs, fnd, q, hn, hl⟩
  refine ⟨_, rfl, rfl, _, rfl, ?_⟩
  cases o with
  | none =>
    have ev : v = .non := fnd
    subst ev
    exact iteF (q H1 s1)
  | some x =>
    obtain ⟨t, j⟩ := x
    obtain ⟨a, tv, rfl, ea, lv⟩ := fnd
    obtain ⟨hn1, hn2⟩ := hn t j rfl
    obtain ⟨n', en⟩ : ∃ n', m = n' + 1 := ⟨m - 1, by omega⟩
    subst en
    refine iteT ?_
    have lvl := lvs.length
    have wl1000 := W.ln
    obtain ⟨naD, ea1⟩ := hide_inv ea
    obtain ⟨haH, ea2⟩ := fresh_inv ea1
    refine ⟨fun σ' H' => ∃ m', m' < n' + 1 ∧ ∃ (n : Nat) (ts : List Aw.T) (vs : List V) (o : Option (Aw.T × Nat)) (v : V), m' = n ∧ σ' = [some (.ref wl), some (.int i), some (.int (2 - (d : Int))), some (.int ((r : Nat) : Int)), some v, some (.ref D)] ∧ Same H H' ∧ H' D = some (.lst vs) ∧ LAs (hide D (fresh H H')) vs ts ∧
      Fnd (hide D (fresh H H')) v o ∧ LOut H Q (contM ws G kd n ts o) ∧ (∀ t j, o = some (t, j) → ws.length < n + j ∧ j ≤ ws.length) ∧ ts.length + n ≤ ws.length + 1, fun _ _ h => h, ?_⟩
    refine ⟨_, rfl, .inl ⟨rfl, _, SqL.of eD⟩, _, rfl, a, _, _, _, rfl, rfl, SqT.of ea2, rfl, D, _, _, rfl, rfl, eD, small1000 (by omega), ?_⟩
    have k2 : ∀ b o, H1 b = some o → b ≠ D → (upd H1 D (.lst (vs ++ [tv]))) b = some o := fun b o e nb => by rw [upd_ne nb]; exact e
    have eD2 : (upd H1 D (.lst (vs ++ [tv]))) D = some (.lst (vs ++ [tv])) := upd_same
    generalize upd H1 D (.lst (vs ++ [tv])) = H2 at k2 eD2 ⊢
    have ea2' := k2 _ _ ea2 naD
    have hw2 := k2 _ _ (s1 _ _ hw) nwD
    refine ⟨_, rfl, _, rfl, a, _, _, _, rfl, rfl, SqT.of ea2', rfl, _, rfl, _, rfl, a, _, _, _, rfl, rfl, SqT.of ea2', rfl, _, _, rfl, rfl, _, rfl, wl, _, rfl, SqL.of hw2, fun l1 hl1 => ?_⟩
    rw [cutI]
    refine ⟨(by show 4 ≤ sizeLine; decide), fun l2 hl2 => ?_⟩
    refine ⟨_, rfl, l2, _, _, _, rfl, rfl, SqL.of upd_same, R.sg, (by show 1 ≤ sizeLine; decide), fun l3 hl3 => ?_⟩
    have okp : ∀ s ∈ ([kd.sg] : List Str), PyData.strOk s = true := fun s hs => by rw [List.mem_singleton.mp hs]; exact R.ok
    refine ⟨_, _, .lst (SqL.of (same_new hl3 _ _ _ (same_new hl2 _ _ _ upd_same))) (dp_strs _), .lst (SqL.of upd_same) (dp_strs [kd.sg]), shaped_ok (sl1_ok W j), shaped_ok okp, _, rfl, ?_⟩
    rw [show PyData.eqv (.list ((sl1 ws j).map PyData.str)) (.list (([kd.sg] : List Str).map PyData.str)) = decide (wd ws j = kd.sg) from eqv1 ws j (sg_ne kd)]
    have s23 := ((same_new hl1 (.lst ((sl1 ws j).map V.str))).trans (same_new hl2 (.lst [.str "", .str "|", .str "&", .str "+"]))).trans (same_new hl3 (.lst [.str kd.sg]))
    revert s23
    generalize upd (upd (upd H2 l1 (.lst ((sl1 ws j).map V.str))) l2 (.lst [.str "", .str "|", .str "&", .str "+"])) l3 (.lst [.str kd.sg]) = H3
    intro s23
    have s3 : Same H H3 := fun b o e => s23 _ _ (k2 _ _ (s1 _ _ e) (ne_of_none e hDH))
    have k3 : ∀ b o, H1 b = some o → b ≠ D → H3 b = some o := fun b o e nb => s23 _ _ (k2 _ _ e nb)
    have ea3 := k3 _ _ ea2 naD
    have eD3 := s23 _ _ eD2
    have hw3 := s23 _ _ hw2
    by_cases c : wd ws j = kd.sg
    · rw [cont_more c] at q
      rw [decide_eq_true c]
      refine iteF ?_
      have tuck : ∀ H4, Same H3 H4 → Same (hide D (fresh H H1)) (hide D (fresh H H4)) := fun H4 s4 b o hb => by
        obtain ⟨z0, z⟩ := hide_inv hb
        obtain ⟨z1, z2⟩ := fresh_inv z
        exact hide_at z0 (fresh_at z1 (s4 _ _ (k3 _ _ z2 z0)))
      have tuck2 : ∀ H4, Same H3 H4 → Same (fresh H3 H4) (hide D (fresh H H4)) := fun H4 s4 b o hb => by
        obtain ⟨z1, z2⟩ := fresh_inv hb
        exact hide_at (fun z => by rw [z, eD3] at z1; cases z1) (fresh_at (s3.free z1) z2)
      refine ⟨_, rfl, _, rfl, a, _, _, _, rfl, rfl, SqT.of ea3, rfl, _, _, rfl, rfl, _, rfl, _, rfl, _, _, rfl, rfl, wl, ws, j + 1, rfl, hw3, W, ?_⟩
      rw [← hG]
      cases e : G (j + 1) with
      | none =>
        intro H4 s4
        exact ⟨n', by omega, n', ts ++ [t], vs ++ [tv], none, .non, rfl, rfl, s3.trans s4, s4 _ _ eD3, LAs.snoc (lv.mono (.of_same (tuck H4 s4))) (lvs.mono (.of_same (tuck H4 s4))), rfl, by rw [e] at q; exact q, (fun _ _ z => by cases z), by rw [List.length_append, List.length_singleton]; omega⟩
      | some x =>
        obtain ⟨t', j'⟩ := x
        intro a' v' H4 s4 hn4 e4 lv4
        have := hF (j + 1) t' j' (by first | exact e | (rw [← hG]; exact e))
        refine ⟨n', by omega, n', ts ++ [t], vs ++ [tv], some (t', j'), .ref a', rfl, rfl, s3.trans s4, s4 _ _ eD3, LAs.snoc (lv.mono (.of_same (tuck H4 s4))) (lvs.mono (.of_same (tuck H4 s4))), ⟨a', v', rfl, tuck2 H4 s4 _ _ (fresh_at hn4 e4), lv4.mono (.of_same (tuck2 H4 s4))⟩, by rw [e] at q; exact q, fun t2 j2 z => by cases z; omega, by rw [List.length_append, List.length_singleton]; omega⟩
    · rw [cont_stop c] at q
      rw [decide_eq_false c]
      refine iteT ?_
      have low : Same (hide D (fresh H H1)) (fresh H H3) := fun b o hb => by
        obtain ⟨z0, z⟩ := hide_inv hb
        obtain ⟨z1, z2⟩ := fresh_inv z
        exact fresh_at z1 (k3 _ _ z2 z0)
      refine ⟨_, rfl, D, _, rfl, .inl (SqL.of eD3), rfl, _, rfl, ?_⟩
      rw [List.length_append, List.length_singleton]
      cases ts with
      | nil =>
        have e0 : vs.length = 0 := lvl
        rw [e0]
        refine iteT ⟨_, rfl, ?_⟩
        exact q a tv H3 s3 haH ea3 (lv.mono (.of_same low))
      | cons u r' =>
        have e0 : vs.length = r'.length + 1 := lvl
        rw [show decide (V.int ((vs.length + 1 : Nat) : Int) = V.int 1) = false from decide_eq_false (by intro z; have := V.int.inj z; omega)]
        refine iteF ⟨_, rfl, D, _, rfl, .inl (SqL.of eD3), _, _, rfl, rfl, _, rfl, ?_⟩
        rw [List.length_append, List.length_singleton]
        by_cases c8 : 8 < vs.length + 1
        · rw [show decide ((8 : Int) < ((vs.length + 1 : Nat) : Int)) = true from decide_eq_true (by omega)]
          rw [join_none (by rw [List.length_append, List.length_cons, List.length_singleton]; omega)] at q
          exact iteT (q H3 s3)
        · rw [show decide ((8 : Int) < ((vs.length + 1 : Nat) : Int)) = false from decide_eq_false (by omega)]
          rw [join_many (by rw [List.length_append, List.length_cons, List.length_singleton]; omega) (by rw [List.length_append, List.length_cons, List.length_singleton]; omega)] at q
          refine iteF ⟨(by show 4 ≤ sizeLine; decide), fun l4 hl4 => ⟨_, rfl, l4, _, _, _, rfl, rfl, SqL.of upd_same, R.nm, _, rfl, (by show 2 ≤ sizeLine; decide), fun p hp => ?_⟩⟩
          have s5 := (same_new hl4 (.lst [.str "", .str "most", .str "least", .str "sum"])).trans (same_new hp (.tup [.str kd.nm, .ref D]))
          refine ⟨_, rfl, a, _, _, _, rfl, rfl, SqT.of (s5 _ _ ea3), rfl, (by show 2 ≤ sizeLine; decide), fun a2 ha2 => ?_⟩
          have s6 := s5.trans (same_new ha2 (.tup [.ref p, .int (j : Int)]))
          have np : p ≠ a2 := ne_of_none upd_same ha2
          refine q a2 (.ref p) _ (s3.trans s6) ((s3.trans s5).free ha2) upd_same (.join (p := D) (vs := vs ++ [tv]) (fresh_at ((s3.trans (same_new hl4 _)).free hp) (by rw [upd_ne np]; exact upd_same)) (fresh_at hDH (s6 _ _ eD3)) (by simp) ?_)
          have low6 : Same (hide D (fresh H H1)) (fresh H (upd (upd (upd H3 l4 (.lst [.str "", .str "most", .str "least", .str "sum"])) p (.tup [.str kd.nm, .ref D])) a2 (.tup [.ref p, .int (j : Int)]))) := fun b o hb => by
            obtain ⟨z1, z2⟩ := fresh_inv (low b o hb)
            exact fresh_at z1 (s6 _ _ z2)
          exact LAs.snoc (lv.mono (.of_same low6)) (lvs.mono (.of_same low6))
theorem rk1 : RkOk 1 .most := ⟨by decide, by decide, rfl, rfl, rfl, by decide +kernel, by decide⟩
theorem rk2 : RkOk 2 .least := ⟨by decide, by decide, rfl, rfl, rfl, by decide +kernel, by decide⟩
theorem rk3 : RkOk 3 .sum := ⟨by decide, by decide, rfl, rfl, rfl, by decide +kernel, by decide⟩
/-- the law's reader whole -/
theorem ok_lawread {g : Addr} {gd : FuncData} (F : Fun K "_law_chain" "_law_chain" s_law_chain f fd) (FS : Fun K "_law_single" "_law_single" s_law_single g gd) (T : TxS P w K mg base)
    (bC : Binds K fd ["_law_words", "_law_at", "_law_deep", "_law_rank"] []) (mC : mg "_law_chain" = some (.ref f)) (bS : Binds K gd ["_law_words", "_law_at", "_law_deep"] []) (mS : mg "_law_single" = some (.ref g)) :
    FnOk P w K mg base CX0 16 f fd ["_law_words", "_law_at", "_law_deep", "_law_rank"] (spChain 2 1) := by
  have S0 := ok_sing0 FS T
  have up : ∀ {d k : Nat} (_ : 2 ≤ k), FnOk P w K mg base CX0 k g gd ["_law_words", "_law_at", "_law_deep"] (spSing d) → FnOk P w K mg base CX0 (k + 4) f fd ["_law_words", "_law_at", "_law_deep", "_law_rank"] (spChain d 1) := fun {d k} hk S => by
    have c4 := ok_chain4 F S bS FS.kp mS
    have c3 := ok_chainR (by omega) rk3 F T.len c4 bC mC
    have c2 := ok_chainR (by omega) rk2 F T.len c3 bC mC
    exact ok_chainR (by omega) rk1 F T.len c2 bC mC
  have C0 := up (by decide) S0
  have S1 := ok_singS (d := 0) (k := 6) (by decide) (by decide) FS T (S0.mono (by decide)) bS mS C0 bC F.kp mC
  have C1 := up (by decide) S1
  have S2 := ok_singS (d := 1) (k := 11) (by decide) (by decide) FS T (S1.mono (by decide)) bS mS C1 bC F.kp mC
  exact up (by decide) S2
end
end Aw

namespace Aw
open PySem L2
/-! ### a text that is refused -/
structure Up04 (K : PySem.W.Frag) (mg : Str → Option Value) (N HE NN NB NF NP NR : Addr) : Prop where
  xx : PySem.W.exmOne K (.ref N) (.ref N) = some true
  c : ExcC K N
  gc : mg "NoRecipe" = some (.ref N)
  gh : mg "HallError" = some (.ref HE)
  gn : mg "NoName" = some (.ref NN)
  gb : mg "NoNumber" = some (.ref NB)
  gf : mg "Full" = some (.ref NF)
  gp : mg "NoPoint" = some (.ref NP)
  gr : mg "NoRow" = some (.ref NR)
  zv : mg "ValueError" = none
  isi : mg "isinstance" = none
  kh : PySem.W.kitOne K (.ref N) (.ref HE) = some true
  kv : PySem.W.kitOne K (.ref N) (.type "ValueError") = some true
  kn : PySem.W.kitOne K (.ref N) (.ref NN) = some false
  kb : PySem.W.kitOne K (.ref N) (.ref NB) = some false
  kf : PySem.W.kitOne K (.ref N) (.ref NF) = some false
  kp : PySem.W.kitOne K (.ref N) (.ref NP) = some false
  kr : PySem.W.kitOne K (.ref N) (.ref NR) = some false
def spRef : Sp := fun vs H Q _ => ∃ z, vs = [.str z] ∧ z.length ≤ 100000 ∧ readM z = none ∧ ∀ H', Same H H' → Q (.bl true) H'
section
variable {P : Program} {w : World} {K : PySem.W.Frag} {mg : Str → Option Value} {base : Heap} {f : Addr} {fd : FuncData} {N HE NN NB NF NP NR : Addr}
set_option maxHeartbeats 0 in
theorem ok_refused {fr : Addr} {dr : FuncData} (F : Fun K "_law_refused" "_law_refused" s_law_refused f fd) (T : Up04 K mg N HE NN NB NF NP NR)
    (Rd : FnOk P w K mg base (L2.CX P w) 27 fr dr ["text"] (spRead N)) (bR : Binds K dr ["text"] []) (kR : PySem.W.keepIn K (.ref fr) = true) (mR : mg "read" = some (.ref fr)) :
    FnOk P w K mg base CX0 28 f fd ["_law_text"] spRef := by
  refine F.ok sc_law_refused (fun vs H Q E h => ?_) (fun cdv A00 outer s H vs Q E hr h => ?_)
  · obtain ⟨z, rfl, _⟩ := h
    rfl
  obtain ⟨z, rfl, hz, en, q⟩ := h
  have nd := sc_law_refused.nd
  have hr27 : Room 27 _ := hr.mono (by decide)
  refine ⟨_, pss_cons (ps_try_cl rfl rfl takes0 (fun W pn xe tk _ => pss_one (ps_expr (pe_callS Rd hr27 rfl mR kR bR (fun σ => passAt tk σ) (pa_cons (pv 0) pa_nil))))
      (cl_as (i := 1) (c := .ref N) nd rfl rfl ⟨rfl, by decide, .inl T.gc⟩ (fun a oe cls d pn hz hf => pss_exc (N := N) hz fun hz =>
          pss_cons (ps_set (i := 2) nd rfl (.inl rfl) (pe_or (pe_callB (call_isE T.c hz hf) (by rfl) T.isi (by decide +kernel) (pa_cons (pv 1) (pa_cons (pe_glob (v := .ref NN) rfl T.gn rfl) pa_nil)))
            (pe_or (pe_callB (call_isE T.c hz hf) (by rfl) T.isi (by decide +kernel) (pa_cons (pv 1) (pa_cons (pe_glob (v := .ref NB) rfl T.gb rfl) pa_nil)))
              (pe_one (pe_callB (call_isE T.c hz hf) (by rfl) T.isi (by decide +kernel) (pa_cons (pv 1) (pa_cons (pe_glob (v := .ref NF) rfl T.gf rfl) pa_nil)))))))
          (pss_cons (ps_set (i := 2) nd rfl (.inl rfl) (pe_or (pv 2) (pe_or (pe_callB (call_isE T.c hz hf) (by rfl) T.isi (by decide +kernel) (pa_cons (pv 1) (pa_cons (pe_glob (v := .ref NP) rfl T.gp rfl) pa_nil)))
              (pe_one (pe_callB (call_isE T.c hz hf) (by rfl) T.isi (by decide +kernel) (pa_cons (pv 1) (pa_cons (pe_glob (v := .ref NR) rfl T.gr rfl) pa_nil)))))))
          (pss_one (ps_ret (pe_and (pe_callB (call_isE T.c hz hf) (by rfl) T.isi (by decide +kernel) (pa_cons (pv 1) (pa_cons (pe_glob (v := .ref HE) rfl T.gh rfl) pa_nil)))
            (pe_and (pe_callB (call_isE T.c hz hf) (by rfl) T.isi (by decide +kernel) (pa_cons (pv 1) (pa_cons (pe_bltn (v := .ty "ValueError") (by rfl) T.zv (by decide +kernel) rfl) pa_nil)))
              (pe_one (pe_not (pv 2))))))))) cl_nil))
    (pss_one (ps_ret pe_bl)), ?_⟩
  refine ⟨_, rfl, z, rfl, big hz, fun t et => (by rw [en] at et; cases et), fun _ H1 s1 => ?_⟩
  refine ⟨true, T.xx, fun _ a ha => ⟨⟨rfl, rfl⟩, ?_⟩, fun w => by cases w⟩
  refine ⟨_, rfl, _, _, false, rfl, fun u h => h, T.kn, _, rfl, ?_⟩
  refine ⟨_, rfl, _, _, false, rfl, fun u h => h, T.kb, _, rfl, ?_⟩
  refine ⟨_, rfl, _, _, false, rfl, fun u h => h, T.kf, ?_⟩
  refine ⟨_, rfl, _, rfl, ?_⟩
  refine ⟨_, rfl, _, _, false, rfl, fun u h => h, T.kp, _, rfl, ?_⟩
  refine ⟨_, rfl, _, _, false, rfl, fun u h => h, T.kr, ?_⟩
  refine ⟨_, rfl, _, _, true, rfl, fun u h => h, T.kh, _, rfl, ?_⟩
  refine ⟨_, rfl, _, _, true, rfl, fun u h => h, T.kv, _, rfl, ?_⟩
  exact ⟨_, rfl, _, rfl, q H1 s1⟩
end
end Aw

namespace Aw
open PySem L2
/-! ### k36: a text taken apart, a text told otherwise -/
theorem strOk_iff {z : Str} : PyData.strOk z = true ↔ ∀ c ∈ z.cps.toList, c < 0x110000 := by
  unfold PyData.strOk
  rw [← Array.all_toList, List.all_eq_true]
  exact ⟨fun h c hc => of_decide_eq_true (h c hc), fun h c hc => decide_eq_true (h c hc)⟩
theorem strOk_app {a b : Str} (h1 : PyData.strOk a = true) (h2 : PyData.strOk b = true) : PyData.strOk (a ++ b) = true := strOk_iff.mpr fun c hc => by
  rw [cps_app] at hc
  rcases List.mem_append.mp hc with q | q
  · exact strOk_iff.mp h1 c q
  · exact strOk_iff.mp h2 c q
theorem strOk_sub {a b : Str} (h : PyData.strOk b = true) (i : ∀ c ∈ a.cps.toList, c ∈ b.cps.toList) : PyData.strOk a = true := strOk_iff.mpr fun c hc => strOk_iff.mp h c (i c hc)
theorem strOk_sg {z : Str} {c : Nat} (h : PyData.strOk z = true) (hc : c ∈ z.cps.toList) : PyData.strOk (sg1 c) = true := strOk_sub h fun x hx => by
  rw [List.mem_singleton.mp hx]
  exact hc
theorem lex_ne : ∀ (cs : List Nat) {ws ws' : List Str} {b : Kn}, (b = .letter ∨ b = .figure → 0 < ws.length) → (∀ w ∈ ws, ¬ w = Str.empty) → lexGo cs ws b = some ws' → ∀ w ∈ ws', ¬ w = Str.empty
  | [], ws, ws', b, _, h, e => by
    unfold lexGo at e
    cases e
    exact h
  | c :: r, ws, ws', b, hb, h, e => by
    unfold lexGo at e
    cases k : kindM c with
    | none => rw [k] at e; cases e
    | some kk =>
      rw [k] at e
      refine lex_ne r (fun q => ?_) (fun w hw => ?_) e
      · unfold lexStep
        by_cases h1 : kk = b ∧ (kk = .letter ∨ kk = .figure)
        · rw [if_pos h1]; unfold addLast; rw [List.length_set]; exact hb (h1.1 ▸ h1.2)
        · rw [if_neg h1, if_pos (by intro z; subst z; rcases q with q | q <;> cases q), List.length_append]
          exact Nat.lt_of_lt_of_le Nat.zero_lt_one (Nat.le_add_left _ _)
      · unfold lexStep at hw
        dsimp only at hw
        split at hw
        · unfold addLast at hw
          rcases List.mem_or_eq_of_mem_set hw with q | q
          · exact h w q
          · rw [q]; exact ne_len (by rw [len_app, len_sg1]; omega)
        · split at hw
          · rcases List.mem_append.mp hw with q | q
            · exact h w q
            · rw [List.mem_singleton.mp q]; exact ne_len (Nat.le_refl 1)
          · exact h w hw
/-- the law's word for a kind -/
def lkV (c : Nat) : Str := if c ∈ LET then "a" else if c ∈ FIG then "0" else sg1 c
def TUP : List Str := ["a", "0", " ", "+", "&", "|", "(", ")", "[", "]"]
def TUPn : List Nat := [97, 48, 32, 43, 38, 124, 40, 41, 91, 93]
theorem tup_n : TUP = TUPn.map sg1 := by decide +kernel
theorem sg1_inj {a b : Nat} (h : sg1 a = sg1 b) : a = b := by
  have := congrArg (fun z : Str => z.cps.toList) h
  exact List.head_eq_of_cons_eq this
theorem bl_sg {c : Nat} : sg1 c = " " ↔ c = 32 := by
  rw [show (" " : Str) = sg1 32 by decide +kernel]
  exact ⟨sg1_inj, fun h => by rw [h]⟩
theorem lk_in (c : Nat) : decide (lkV c ∈ TUP) = (kindM c).isSome := by
  unfold lkV kindM
  by_cases h1 : c ∈ LET
  · rw [if_pos h1, if_pos h1]; decide +kernel
  · rw [if_neg h1, if_neg h1]
    by_cases h2 : c ∈ FIG
    · rw [if_pos h2, if_pos h2]; decide +kernel
    · rw [if_neg h2, if_neg h2]
      have e : sg1 c ∈ TUP ↔ c ∈ TUPn := by
        rw [tup_n, List.mem_map]
        exact ⟨fun ⟨x, hx, ex⟩ => sg1_inj ex ▸ hx, fun h => ⟨c, h, rfl⟩⟩
      have q : ∀ c ∈ TUPn, c ∈ LET ∨ c ∈ FIG ∨ c ∈ OTH ∨ c = 32 := by decide +kernel
      have q2 : ∀ c ∈ OTH, c ∈ TUPn := by decide +kernel
      have q3 : (32 : Nat) ∈ TUPn := by decide
      by_cases h3 : c ∈ OTH
      · rw [if_pos h3, decide_eq_true (e.mpr (q2 c h3))]; rfl
      · rw [if_neg h3]
        by_cases h4 : sg1 c = " "
        · rw [if_pos h4, decide_eq_true (e.mpr (by rw [bl_sg.mp h4]; exact q3))]; rfl
        · rw [if_neg h4, decide_eq_false fun w => ?_]
          · rfl
          · rcases q c (e.mp w) with z | z | z | z
            · exact h1 z
            · exact h2 z
            · exact h3 z
            · exact h4 (bl_sg.mpr z)
theorem a_let : (97 : Nat) ∈ LET := by decide +kernel
theorem n_fig : (48 : Nat) ∈ FIG := by decide +kernel
theorem lk_a {c : Nat} : lkV c = "a" ↔ kindM c = some .letter := by
  unfold lkV kindM
  by_cases h1 : c ∈ LET
  · rw [if_pos h1, if_pos h1]; exact ⟨fun _ => rfl, fun _ => rfl⟩
  · rw [if_neg h1, if_neg h1]
    by_cases h2 : c ∈ FIG
    · rw [if_pos h2, if_pos h2]; exact ⟨fun w => absurd w (by decide +kernel), fun w => by cases w⟩
    · rw [if_neg h2, if_neg h2]
      refine ⟨fun w => ?_, fun w => ?_⟩
      · rw [show ("a" : Str) = sg1 97 by decide +kernel] at w
        exact absurd (sg1_inj w ▸ a_let) h1
      · split at w
        · cases w
        · split at w <;> cases w
theorem lk_0 {c : Nat} : lkV c = "0" ↔ kindM c = some .figure := by
  unfold lkV kindM
  by_cases h1 : c ∈ LET
  · rw [if_pos h1, if_pos h1]; exact ⟨fun w => absurd w (by decide +kernel), fun w => by cases w⟩
  · rw [if_neg h1, if_neg h1]
    by_cases h2 : c ∈ FIG
    · rw [if_pos h2, if_pos h2]; exact ⟨fun _ => rfl, fun _ => rfl⟩
    · rw [if_neg h2, if_neg h2]
      refine ⟨fun w => ?_, fun w => ?_⟩
      · rw [show ("0" : Str) = sg1 48 by decide +kernel] at w
        exact absurd (sg1_inj w ▸ n_fig) h2
      · split at w
        · cases w
        · split at w <;> cases w
theorem bl_no : ¬ (32 : Nat) ∈ LET ∧ ¬ (32 : Nat) ∈ FIG ∧ ¬ (32 : Nat) ∈ OTH := by decide +kernel
theorem lk_b {c : Nat} : lkV c = " " ↔ kindM c = some .blank := by
  unfold lkV kindM
  by_cases h1 : c ∈ LET
  · rw [if_pos h1, if_pos h1]; exact ⟨fun w => absurd w (by decide +kernel), fun w => by cases w⟩
  · rw [if_neg h1, if_neg h1]
    by_cases h2 : c ∈ FIG
    · rw [if_pos h2, if_pos h2]; exact ⟨fun w => absurd w (by decide +kernel), fun w => by cases w⟩
    · rw [if_neg h2, if_neg h2]
      refine ⟨fun w => ?_, fun w => ?_⟩
      · have e := bl_sg.mp w
        subst e
        rw [if_neg bl_no.2.2, if_pos w]
      · split at w
        · cases w
        · split at w
          · assumption
          · cases w
structure KV (b : Kn) (kv : Str) : Prop where
  a : kv = "a" ↔ b = .letter
  n : kv = "0" ↔ b = .figure
theorem KV.of {c : Nat} {k : Kn} (h : kindM c = some k) : KV k (lkV c) := ⟨by rw [lk_a, h]; exact ⟨fun w => Option.some.inj w, fun w => by rw [w]⟩, by rw [lk_0, h]; exact ⟨fun w => Option.some.inj w, fun w => by rw [w]⟩⟩
def spParted : Sp := fun vs H Q _ => ∃ z, vs = [.str z] ∧ z.length ≤ 900 ∧ PyData.strOk z = true ∧ (lexM z = none → ∀ H', Same H H' → Q .non H') ∧
  (∀ ws, lexM z = some ws → ∀ (l : Addr) (H' : Hp), Same H H' → H l = none → H' l = some (.lst (ws.map V.str)) → LWs ws → Q (.ref l) H')
section
variable {P : Program} {w : World} {K : PySem.W.Frag} {mg : Str → Option Value} {base : Heap} {f : Addr} {fd : FuncData}
set_option maxHeartbeats 0 in
theorem ok_parted (F : Fun K "_law_parted" "_law_parted" s_law_parted f fd) : FnOk P w K mg base CX0 1 f fd ["_law_text"] spParted := by
  refine F.ok sc_law_parted (fun vs H Q E h => ?_) (fun cdv A outer s H vs Q E hr h => ?_)
  · obtain ⟨z, rfl, _⟩ := h
    rfl
  obtain ⟨z, rfl, hz, zo, k2, k1⟩ := h
  have nd := sc_law_parted.nd
  refine ⟨_, pss_cons (ps_par (i := 1) (j := 2) rfl nd rfl rfl (by decide) rfl rfl (pa_cons (pe_lst pa_nil) (pa_cons pe_str pa_nil)) rfl)
    (pss_cons (ps_for PassesOwn.never rfl (pi_str (pv 0)) (pg_name (i := 3) nd rfl (.inl rfl))
      (C8.pss_cut (ps_set (i := 4) nd rfl (.inl rfl) (pe_ifExp (pt_cmpR op_in_sign (pv 3) pe_str rfl) pe_str (pe_ifExp (pt_cmpR op_in_sign (pv 3) pe_str rfl) pe_str (pv 3))))
      (pss_cons (ps_if (pt_cmpR op_notIn_seq (pv 4) (pe_tup (pa_cons pe_str (pa_cons pe_str (pa_cons pe_str (pa_cons pe_str (pa_cons pe_str (pa_cons pe_str (pa_cons pe_str (pa_cons pe_str (pa_cons pe_str (pa_cons pe_str pa_nil))))))))))) rfl) (pss_one (ps_ret pe_non)) pss_nil)
      (pss_cons (ps_if (PW.pt (pw_and (pt_cmpR op_in_seq (pv 4) (pe_tup (pa_cons pe_str (pa_cons pe_str pa_nil))) rfl) (pw_and1 (pt_cmpR op_eq (pv 4) (pv 2) (nomark _)))))
        (pss_one (ps_asg (pe_op op_add_str (pe_ix ix_list (pv 1) (pe_un un_neg pe_int) (fun _ _ => rfl)) (pv 3)) (pg_sub (pv 1) (pe_un un_neg pe_int) set_list)))
        (pss_one (ps_if (pt_cmpR op_ne (pv 4) pe_str (nomark _)) (pss_one (ps_expr (pe_bm PySem.F.plainAttrs_list PySem.F.slot_list_append PySem.F.type_list_append mt_append (pv 1) (pa_cons (pv 3) pa_nil)))) pss_nil)))
      (pss_one (ps_set (i := 2) nd rfl (.inl rfl) (pv 4)))))))
    (pss_one (ps_ret (pv 1)))), ?_⟩
  refine ⟨(by show 0 ≤ sizeLine; decide), fun D hD => ?_⟩
  refine ⟨_, _, rfl, _, rfl, _, rfl, ?_⟩
  refine for_it (walk_str (z := z)) (fun i σ H' => ∃ (ws : List Str) (b : Kn) (kv : Str) (v3 v4 : Option V), σ = [some (.str z), some (.ref D), some (.str kv), v3, v4] ∧ Same H H' ∧ H' D = some (.lst (ws.map V.str)) ∧ LexOk z i ws b ∧ KV b kv ∧ ∀ w ∈ ws, PyData.strOk w = true)
    ⟨[], .blank, "", none, none, rfl, same_new hD _, upd_same, ⟨rfl, (by intro q; rcases q with q | q <;> cases q), Nat.le_refl _, fun _ h => by cases h⟩, ⟨⟨fun w => absurd w (by decide +kernel), fun w => by cases w⟩, ⟨fun w => absurd w (by decide +kernel), fun w => by cases w⟩⟩, fun _ h => by cases h⟩ (fun _ _ _ _ _ => trivial) ?_ ?_
  · rintro i x σ H1 H2 hi ⟨ws, b, kv, v3, v4, rfl, s1, e1, L, kk, wo⟩ ⟨rfl, c, hc, rfl⟩
    have hc' : z.cps.toList[i]? = some c := by rw [Array.getElem?_toList]; exact hc
    have hi' : i < z.length := hi
    have co := strOk_sg zo (List.mem_of_getElem? hc')
    refine ⟨fun σ' H' => σ' = [some (.str z), some (.ref D), some (.str kv), some (.str (sg1 c)), some (.str (lkV c))] ∧ H2 = H', ?_, ?_⟩
    · refine ⟨_, rfl, c, _, rfl, rfl, _, rfl, ?_⟩
      by_cases h1 : c ∈ LET
      · rw [show decide (c ∈ (("abcdefghijklmnopqrstuvwxyz" : Str)).cps.toList) = true from decide_eq_true h1]
        refine iteT ⟨?_, rfl⟩
        unfold lkV; rw [if_pos h1]; rfl
      · rw [show decide (c ∈ (("abcdefghijklmnopqrstuvwxyz" : Str)).cps.toList) = false from decide_eq_false h1]
        refine iteF ⟨_, rfl, c, _, rfl, rfl, _, rfl, ?_⟩
        by_cases h2 : c ∈ FIG
        · rw [show decide (c ∈ (("0123456789" : Str)).cps.toList) = true from decide_eq_true h2]
          refine iteT ⟨?_, rfl⟩
          unfold lkV; rw [if_neg h1, if_pos h2]; rfl
        · rw [show decide (c ∈ (("0123456789" : Str)).cps.toList) = false from decide_eq_false h2]
          refine iteF ⟨_, rfl, ?_, rfl⟩
          unfold lkV; rw [if_neg h1, if_neg h2]; rfl
    rintro σ' H' ⟨rfl, rfl⟩
    refine ⟨_, rfl, (by show 10 ≤ sizeLine; decide), fun p hp => ?_⟩
    have sp := same_new hp (.tup [.str "a", .str "0", .str " ", .str "+", .str "&", .str "|", .str "(", .str ")", .str "[", .str "]"])
    refine ⟨p, _, rfl, .inr (SqT.of upd_same), rfl, flat_strs TUP, _, rfl, ?_⟩
    rw [show (if true = true then !inV (V.str (lkV c)) [.str "a", .str "0", .str " ", .str "+", .str "&", .str "|", .str "(", .str ")", .str "[", .str "]"] else inV (V.str (lkV c)) [.str "a", .str "0", .str " ", .str "+", .str "&", .str "|", .str "(", .str ")", .str "[", .str "]"]) = !(kindM c).isSome from by rw [if_pos rfl, ← lk_in, ← in_strs]; rfl]
    cases hk : kindM c with
    | none => exact iteT (k2 (L.none hc' hk) _ (s1.trans sp))
    | some k =>
      refine iteF ?_
      have L' := L.step hc' hk
      have kk' := KV.of hk
      have ep := sp _ _ e1
      refine ⟨_, rfl, (by show 2 ≤ sizeLine; decide), fun p2 hp2 => ?_⟩
      have sp2 := same_new hp2 (.tup [.str "a", .str "0"])
      have e2 := sp2 _ _ ep
      have s2 := (s1.trans sp).trans sp2
      refine ⟨p2, _, rfl, .inr (SqT.of upd_same), rfl, flat_strs [("a" : Str), ("0" : Str)], _, rfl, ?_⟩
      rw [show (if false = true then !inV (V.str (lkV c)) [.str "a", .str "0"] else inV (V.str (lkV c)) [.str "a", .str "0"]) = decide (lkV c ∈ ([("a" : Str), ("0" : Str)] : List Str)) from in_strs _ [("a" : Str), ("0" : Str)]]
      revert s2 e2
      generalize upd (upd H2 p (.tup [.str "a", .str "0", .str " ", .str "+", .str "&", .str "|", .str "(", .str ")", .str "[", .str "]"])) p2 (.tup [.str "a", .str "0"]) = H3
      intro e2 s2
      have lws : ws.length < 1000 := by have := L.ln; omega
      have nw : ∀ {H' : Hp} {x : HO}, Same H (upd H3 D x) := fun {H' x} b o e => by rw [upd_ne (ne_of_none e hD)]; exact s2 _ _ e
      have ab : lkV c ∈ ([("a" : Str), ("0" : Str)] : List Str) ↔ (k = .letter ∨ k = .figure) := by
        rw [List.mem_cons, List.mem_singleton, kk'.a, kk'.n]
      -- what is done where no word goes on
      by_cases h1 : k = b ∧ (k = .letter ∨ k = .figure)
      · rw [decide_eq_true (ab.mpr h1.2)]
        have ekv : lkV c = kv := by
          rcases h1.2 with q | q
          · rw [kk'.a.mpr q, kk.a.mpr (h1.1 ▸ q)]
          · rw [kk'.n.mpr q, kk.n.mpr (h1.1 ▸ q)]
        have pos : 0 < ws.length := L.ne (h1.1 ▸ h1.2)
        refine iteT ⟨_, rfl, _, rfl, rfl, _, rfl, ?_⟩
        rw [decide_eq_true (by rw [ekv] : V.str (lkV c) = V.str kv)]
        have e0 := wd_get (ws := ws) (i := ws.length - 1) (by omega)
        have wl0 := L.wl _ (List.mem_of_getElem? e0)
        refine iteT ⟨_, rfl, _, rfl, D, _, _, .str (wd ws (ws.length - 1)), rfl, rfl, SqL.of e2, at_last (by rw [List.length_map, List.getElem?_map, e0]; rfl) (by rw [List.length_map]; exact pos), _, rfl, _, _, rfl, rfl, ?_, ?_⟩
        · rw [len_sg1]; exact big (by omega)
        refine ⟨_, rfl, _, rfl, D, _, _, ws.length - 1, rfl, rfl, e2, (by rw [List.length_map]; exact ixN_last pos), ?_⟩
        refine ⟨_, rfl, addLast ws c, k, lkV c, _, _, rfl, nw (H' := H), ?_, ?_, kk', fun x hx => ?_⟩
        · rw [upd_same, map_addLast]
        · have := L'
          unfold lexStep at this
          rw [if_pos h1] at this
          exact this
        · unfold addLast at hx
          rcases List.mem_or_eq_of_mem_set hx with y | y
          · exact wo x y
          · rw [y]; exact strOk_app (wo _ (List.mem_of_getElem? e0)) co
      · have rest : ∀ (g : Prop), g → g := fun _ h => h
        have st : lexStep (ws, b) c k = if k ≠ .blank then ws ++ [sg1 c] else ws := by
          unfold lexStep
          rw [if_neg h1]
        rw [st] at L'
        by_cases h2 : k = .letter ∨ k = .figure
        · rw [decide_eq_true (ab.mpr h2)]
          have nkv : ¬ V.str (lkV c) = V.str kv := fun e => h1 ⟨by
            have e := V.str.inj e
            rcases h2 with q | q
            · rw [q, kk.a.mp (e ▸ kk'.a.mpr q)]
            · rw [q, kk.n.mp (e ▸ kk'.n.mpr q)], h2⟩
          refine iteT ⟨_, rfl, _, rfl, rfl, _, rfl, ?_⟩
          rw [decide_eq_false nkv]
          have nb : ¬ k = .blank := fun e => by rcases h2 with q | q <;> (rw [e] at q; cases q)
          rw [if_pos nb] at L'
          refine iteF ⟨_, rfl, rfl, _, rfl, ?_⟩
          rw [decide_eq_false (fun e => nb (by have := lk_b.mp (V.str.inj e); rw [hk] at this; exact Option.some.inj this))]
          refine iteT ⟨_, rfl, .inl ⟨rfl, _, SqL.of e2⟩, _, rfl, D, _, _, rfl, rfl, e2, small1000 (by rw [List.length_map]; omega), ?_⟩
          refine ⟨_, rfl, ws ++ [sg1 c], k, lkV c, _, _, rfl, nw (H' := H), by rw [upd_same, List.map_append]; rfl, L', kk', fun x hx => ?_⟩
          rcases List.mem_append.mp hx with y | y
          · exact wo x y
          · rw [List.mem_singleton.mp y]; exact co
        · rw [decide_eq_false fun w => h2 (ab.mp w)]
          refine iteF ⟨_, rfl, rfl, _, rfl, ?_⟩
          by_cases nb : k = .blank
          · rw [if_neg (fun w => w nb)] at L'
            rw [decide_eq_true (show V.str (lkV c) = V.str " " from congrArg V.str (lk_b.mpr (by rw [hk, nb])))]
            exact iteF ⟨_, rfl, ws, k, lkV c, _, _, rfl, s2, e2, L', kk', wo⟩
          · rw [if_pos nb] at L'
            rw [decide_eq_false (fun e => nb (by have := lk_b.mp (V.str.inj e); rw [hk] at this; exact Option.some.inj this))]
            refine iteT ⟨_, rfl, .inl ⟨rfl, _, SqL.of e2⟩, _, rfl, D, _, _, rfl, rfl, e2, small1000 (by rw [List.length_map]; omega), ?_⟩
            refine ⟨_, rfl, ws ++ [sg1 c], k, lkV c, _, _, rfl, nw (H' := H), by rw [upd_same, List.map_append]; rfl, L', kk', fun x hx => ?_⟩
            rcases List.mem_append.mp hx with y | y
            · exact wo x y
            · rw [List.mem_singleton.mp y]; exact co
  · rintro σ H1 ⟨ws, b, kv, v3, v4, rfl, s1, e1, L, kk, wo⟩
    have go := L.go
    rw [List.drop_of_length_le (by rw [Array.length_toList] <;> exact Nat.le_refl _)] at go
    have go' : lexM z = some ws := go.symm
    exact ⟨_, rfl, k1 ws go' D H1 s1 hD e1 ⟨by have := L.ln; have ez : z.cps.size = z.length := rfl; omega, fun w hw => by have := L.wl w hw; have ez : z.cps.size = z.length := rfl; omega, wo⟩⟩
end
end Aw

namespace Aw
open PySem L2
theorem cutS_pre {z : Str} {v : Int} (h0 : 0 ≤ v) : (cutS z none (some v)).length ≤ v.toNat ∧ (cutS z none (some v)).length ≤ z.length ∧ ∀ c ∈ (cutS z none (some v)).cps.toList, c ∈ z.cps.toList := by
  have ez : z.cps.toList.length = z.length := Array.length_toList
  have e : (cutS z none (some v)).cps.toList = z.cps.toList.take (min v.toNat z.length) := by
    unfold cutS
    rw [HT.sIx_none, show v = ((v.toNat : Nat) : Int) by omega, HT.sIx_nat, Int.toNat_natCast]
    simp
  have el : (cutS z none (some v)).length = (cutS z none (some v)).cps.toList.length := (Array.length_toList).symm
  rw [el, e, List.length_take]
  exact ⟨by omega, by omega, fun c hc => List.mem_of_mem_take hc⟩
theorem cutS_suf {z : Str} {v : Int} (h0 : 0 ≤ v) : (cutS z (some v) none).length ≤ z.length - v.toNat ∧ ∀ c ∈ (cutS z (some v) none).cps.toList, c ∈ z.cps.toList := by
  have ez : z.cps.toList.length = z.length := Array.length_toList
  have e : (cutS z (some v) none).cps.toList = (z.cps.toList.drop (min v.toNat z.length)).take (z.length - min v.toNat z.length) := by
    unfold cutS
    rw [HT.sIx_none, show v = ((v.toNat : Nat) : Int) by omega, HT.sIx_nat, Int.toNat_natCast]
  have el : (cutS z (some v) none).length = (cutS z (some v) none).cps.toList.length := (Array.length_toList).symm
  rw [el, e, List.length_take, List.length_drop]
  exact ⟨by omega, fun c hc => List.mem_of_mem_drop (List.mem_of_mem_take hc)⟩
def SGN : Str := "abcxyz0123789+&|()[] \t\nABZ!#$'*,-./:;<=>?@^_{}~"
theorem sgn_len : SGN.length = 47 := by decide +kernel
theorem sgn_ok : PyData.strOk SGN = true := by decide +kernel
theorem sgn_at {r : Int} (h0 : 0 ≤ r) (h1 : r < 47) : ∃ c, c ∈ SGN.cps.toList ∧ atI SGN.cps.toList r = some c := by
  have hk : r.toNat < SGN.cps.toList.length := by
    have e : SGN.cps.toList.length = 47 := by decide +kernel
    omega
  refine ⟨SGN.cps.toList[r.toNat], List.getElem_mem hk, ?_⟩
  have q : atI SGN.cps.toList ((r.toNat : Nat) : Int) = some SGN.cps.toList[r.toNat] := atI_nat (List.getElem?_eq_getElem hk)
  rwa [show ((r.toNat : Nat) : Int) = r by omega] at q
def spBent : Sp := fun vs H Q _ => ∃ dd z, vs = [.ref dd, .str z] ∧ DiceAt H dd ∧ z.length ≤ 800 ∧ PyData.strOk z = true ∧ ∀ (z' : Str) (H' : Hp), But dd H H' → DiceAt H' dd → z'.length ≤ z.length + 1 → PyData.strOk z' = true → Q (.str z') H'
/-- one of five texts -/
theorem five {Q : V → Prop} {a b c d e : Str} {r : Int} (h0 : 0 ≤ r) (h1 : r < 5) : ∃ s, (s = a ∨ s = b ∨ s = c ∨ s = d ∨ s = e) ∧ atI ([.str a, .str b, .str c] ++ [.str d, .str e] : List V) r = some (.str s) := by
  rcases (by omega : r = 0 ∨ r = 1 ∨ r = 2 ∨ r = 3 ∨ r = 4) with e' | e' | e' | e' | e' <;> subst e'
  · exact ⟨a, .inl rfl, rfl⟩
  · exact ⟨b, .inr (.inl rfl), rfl⟩
  · exact ⟨c, .inr (.inr (.inl rfl)), rfl⟩
  · exact ⟨d, .inr (.inr (.inr (.inl rfl))), rfl⟩
  · exact ⟨e, .inr (.inr (.inr (.inr rfl))), rfl⟩
section
variable {P : Program} {w : World} {K : PySem.W.Frag} {mg : Str → Option Value} {base : Heap} {f : Addr} {fd : FuncData}
set_option maxHeartbeats 0 in
theorem ok_bent {g : Addr} {gd : FuncData} (F : Fun K "_law_bent" "_law_bent" s_law_bent f fd) (zl : mg "len" = none) (GR : FnOk P w K mg base CX0 1 g gd ["_law_dice_here", "_law_most"] spRoll) (bR : Binds K gd ["_law_dice_here", "_law_most"] []) (kR : PySem.W.keepIn K (.ref g) = true) (mR : mg "_law_roll" = some (.ref g)) :
    FnOk P w K mg base CX0 2 f fd ["_law_dice_here", "_law_text"] spBent := by
  refine F.ok sc_law_bent (fun vs H Q E h => ?_) (fun cdv A outer s H vs Q E hr h => ?_)
  · obtain ⟨dd, z, rfl, _⟩ := h
    rfl
  obtain ⟨dd, z, rfl, D, hz, zo, q⟩ := h
  have nd := sc_law_bent.nd
  refine ⟨_, pss_cons (ps_set (i := 2) nd rfl (.inl rfl) pe_str)
    (pss_cons (ps_set (i := 3) nd rfl (.inl rfl) (pe_ix ix_list (pe_lst (pa_cons (pe_call GR hr rfl mR kR bR .nil pass0 (pa_cons (pv 0) (pa_cons (pe_op op_add (pe_callB call_len_str (by rfl) zl PySem.boot_len (pa_cons (pv 1) pa_nil)) pe_int) pa_nil))) (pa_cons (pe_callB call_len_str (by rfl) zl PySem.boot_len (pa_cons (pv 1) pa_nil)) pa_nil)))
      (pe_op op_fdiv (pe_call GR hr rfl mR kR bR .nil pass0 (pa_cons (pv 0) (pa_cons pe_int pa_nil))) pe_int) (fun _ _ => rfl)))
    (pss_cons (ps_set (i := 4) nd rfl (.inl rfl) (pe_ix ix_str (pv 2) (pe_call GR hr rfl mR kR bR .nil pass0 (pa_cons (pv 0) (pa_cons (pe_ix ix_list (pe_lst (pa_cons pe_int (pa_cons (pe_callB call_len_str (by rfl) zl PySem.boot_len (pa_cons (pv 2) pa_nil)) pa_nil))) (pe_call GR hr rfl mR kR bR .nil pass0 (pa_cons (pv 0) (pa_cons pe_int pa_nil))) (fun _ _ => rfl)) pa_nil))) (fun _ _ => rfl)))
    (pss_cons (ps_set (i := 5) nd rfl (.inl rfl) (pe_lst (pa_cons (pe_op op_add_str (pe_op op_add_str (pe_slice sl_str (pv 1) po_none (po_some (pv 3))) (pv 4)) (pe_slice sl_str (pv 1) (po_some (pv 3)) po_none))
      (pa_cons (pe_op op_add_str (pe_slice sl_str (pv 1) po_none (po_some (pv 3))) (pe_slice sl_str (pv 1) (po_some (pe_op op_add (pv 3) pe_int)) po_none))
      (pa_cons (pe_op op_add_str (pe_op op_add_str (pe_slice sl_str (pv 1) po_none (po_some (pv 3))) (pv 4)) (pe_slice sl_str (pv 1) (po_some (pe_op op_add (pv 3) pe_int)) po_none)) pa_nil)))))
    (pss_cons (ps_set (i := 5) nd rfl (.inl rfl) (pe_op op_cat (pv 5) (pe_lst (pa_cons (pe_op op_add_str (pe_slice sl_str (pv 1) po_none (po_some (pe_op op_add (pv 3) pe_int))) (pe_slice sl_str (pv 1) (po_some (pv 3)) po_none))
      (pa_cons (pe_op op_add_str (pe_op op_add_str (pe_slice sl_str (pv 1) po_none (po_some (pv 3))) pe_str) (pe_slice sl_str (pv 1) (po_some (pv 3)) po_none)) pa_nil)))))
    (pss_one (ps_ret (pe_ix ix_list (pv 5) (pe_call GR hr rfl mR kR bR .nil pass0 (pa_cons (pv 0) (pa_cons pe_int pa_nil))) (fun _ _ => rfl)))))))), ?_⟩
  have two : ∀ {H' : Hp} {l : Addr}, DiceAt H' dd → H' l = none → l ≠ dd := fun {H' l} D hl => by
    obtain ⟨x, y, e, _⟩ := D
    exact (ne_of_none e hl).symm
  refine ⟨_, rfl, _, rfl, _, rfl, big (by omega), _, _, rfl, rfl, dd, _, rfl, D, by omega, by omega, fun r H1 r0 r1 b1 D1 => ?_⟩
  refine ⟨_, rfl, _, rfl, big (by omega), (by show 2 ≤ sizeLine; decide), fun l hl => ?_⟩
  have s1 := same_new hl (.lst [.int r, .int (z.length : Int)])
  refine ⟨_, rfl, dd, 6, rfl, D1.mono s1, by decide, by decide, fun r2 H2 r20 r21 b2 D2 => ?_⟩
  obtain ⟨at_, a0, a1, ea⟩ : ∃ at_ : Int, 0 ≤ at_ ∧ at_ ≤ (z.length : Int) ∧ atI ([.int r, .int (z.length : Int)] : List V) (r2 / 5) = some (.int at_) := by
    rcases (by omega : r2 / 5 = 0 ∨ r2 / 5 = 1) with e | e <;> rw [e]
    · exact ⟨r, r0, by omega, rfl⟩
    · exact ⟨z.length, by omega, by omega, rfl⟩
  refine ⟨_, _, rfl, rfl, ⟨by decide, by decide⟩, l, _, _, _, rfl, rfl, SqL.of (b2 _ _ upd_same (two D1 hl)), ea, ?_⟩
  have b02 := (b1.trans (.of_same s1)).trans b2
  have sg49 : SGN.length ≤ 100000 := by rw [sgn_len]; decide
  refine ⟨_, rfl, _, rfl, _, rfl, SGN, rfl, big sg49, (by show 2 ≤ sizeLine; decide), fun l2 hl2 => ?_⟩
  have s3 := same_new hl2 (.lst [.int 22, .int (SGN.length : Int)])
  refine ⟨_, rfl, dd, 2, rfl, D2.mono s3, by decide, by decide, fun r3 H4 r30 r31 b4 D4 => ?_⟩
  obtain ⟨m, m0, m1, em⟩ : ∃ m : Int, 0 < m ∧ m ≤ 47 ∧ atI ([.int 22, .int (SGN.length : Int)] : List V) r3 = some (.int m) := by
    rcases (by omega : r3 = 0 ∨ r3 = 1) with e | e <;> rw [e]
    · exact ⟨22, by decide, by decide, rfl⟩
    · exact ⟨SGN.length, by rw [sgn_len]; decide, by rw [sgn_len]; decide, rfl⟩
  refine ⟨l2, _, _, _, rfl, rfl, SqL.of (b4 _ _ upd_same (two D2 hl2)), em, dd, m, rfl, D4, m0, by omega, fun r5 H5 r50 r51 b5 D5 => ?_⟩
  obtain ⟨c, hc, ec⟩ := sgn_at r50 (by omega : r5 < 47)
  refine ⟨SGN, _, c, rfl, rfl, big sg49, ec, ?_⟩
  have b05 := ((b02.trans (.of_same s3)).trans b4).trans b5
  have co : PyData.strOk (sg1 c) = true := strOk_sg sgn_ok hc
  have bo : PyData.strOk " " = true := by decide +kernel
  have l1 : (" " : Str).length = 1 := by decide +kernel
  obtain ⟨p1, p1', p1o⟩ := cutS_pre (z := z) a0
  obtain ⟨p2, p2', p2o⟩ := cutS_pre (z := z) (v := at_ + 1) (by omega)
  obtain ⟨q1, q1o⟩ := cutS_suf (z := z) a0
  obtain ⟨q2, q2o⟩ := cutS_suf (z := z) (v := at_ + 1) (by omega)
  have p1k := strOk_sub zo p1o
  have p2k := strOk_sub zo p2o
  have q1k := strOk_sub zo q1o
  have q2k := strOk_sub zo q2o
  have zs : z.length ≤ sizeLine := big (by omega)
  have lc : (⟨#[c]⟩ : Str).length = 1 := rfl
  have wl1 : (sg1 c).length = 1 := rfl
  refine ⟨_, rfl, _, rfl, at_, rfl, z, rfl, zs, _, rfl, _, _, rfl, rfl, big (by first | omega | (simp only [len_app, lc, wl1]; omega)), _, rfl, _, rfl, at_, rfl, z, rfl, zs, _, _, rfl, rfl, big (by first | omega | (simp only [len_app, lc, wl1]; omega)), ?_⟩
  refine ⟨_, rfl, _, rfl, at_, rfl, z, rfl, zs, _, rfl, _, rfl, _, _, rfl, rfl, at_ + 1, rfl, z, rfl, zs, _, _, rfl, rfl, big (by first | omega | (simp only [len_app, lc, wl1]; omega)), ?_⟩
  refine ⟨_, rfl, _, rfl, at_, rfl, z, rfl, zs, _, rfl, _, _, rfl, rfl, big (by first | omega | (simp only [len_app, lc, wl1]; omega)), _, rfl, _, rfl, _, _, rfl, rfl, at_ + 1, rfl, z, rfl, zs, _, _, rfl, rfl, big (by first | omega | (simp only [len_app, lc, wl1]; omega)), ?_⟩
  refine ⟨(by show 3 ≤ sizeLine; decide), fun l6 hl6 => ?_⟩
  have s6 := same_new hl6 (.lst [.str (cutS z none (some at_) ++ sg1 c ++ cutS z (some at_) none), .str (cutS z none (some at_) ++ cutS z (some (at_ + 1)) none), .str (cutS z none (some at_) ++ sg1 c ++ cutS z (some (at_ + 1)) none)])
  refine ⟨_, rfl, _, rfl, _, rfl, _, _, rfl, rfl, at_ + 1, rfl, z, rfl, zs, _, rfl, _, rfl, at_, rfl, z, rfl, zs, _, _, rfl, rfl, big (by first | omega | (simp only [len_app, lc, wl1]; omega)), ?_⟩
  refine ⟨_, rfl, _, rfl, at_, rfl, z, rfl, zs, _, _, rfl, rfl, big (by first | omega | (simp only [len_app, lc, wl1, l1]; omega)), _, rfl, _, rfl, at_, rfl, z, rfl, zs, _, _, rfl, rfl, big (by first | omega | (simp only [len_app, lc, wl1, l1]; omega)), ?_⟩
  refine ⟨(by show 2 ≤ sizeLine; decide), fun l7 hl7 => ?_⟩
  have s7 := same_new hl7 (.lst [.str (cutS z none (some (at_ + 1)) ++ cutS z (some at_) none), .str (cutS z none (some at_) ++ " " ++ cutS z (some at_) none)])
  refine ⟨l6, l7, _, _, rfl, rfl, s7 _ _ upd_same, upd_same, (by show 3 + 2 ≤ sizeLine; decide), fun p hp => ?_⟩
  have s8 := same_new hp (.lst ([.str (cutS z none (some at_) ++ sg1 c ++ cutS z (some at_) none), .str (cutS z none (some at_) ++ cutS z (some (at_ + 1)) none), .str (cutS z none (some at_) ++ sg1 c ++ cutS z (some (at_ + 1)) none)] ++ [.str (cutS z none (some (at_ + 1)) ++ cutS z (some at_) none), .str (cutS z none (some at_) ++ " " ++ cutS z (some at_) none)]))
  have s68 := (s6.trans s7).trans s8
  refine ⟨_, rfl, _, rfl, dd, 5, rfl, D5.mono s68, by decide, by decide, fun r6 H9 r60 r61 b9 D9 => ?_⟩
  obtain ⟨y, hy, ey⟩ := five (Q := fun _ => True) (a := cutS z none (some at_) ++ sg1 c ++ cutS z (some at_) none) (b := cutS z none (some at_) ++ cutS z (some (at_ + 1)) none) (c := cutS z none (some at_) ++ sg1 c ++ cutS z (some (at_ + 1)) none) (d := cutS z none (some (at_ + 1)) ++ cutS z (some at_) none) (e := cutS z none (some at_) ++ " " ++ cutS z (some at_) none) r60 r61
  refine ⟨p, _, r6, .str y, rfl, rfl, SqL.of (b9 _ _ upd_same (two (D5.mono (s6.trans s7)) hp)), ey, ?_⟩
  refine q y H9 ((b05.trans (.of_same s68)).trans b9) D9 ?_ ?_
  · rcases hy with e | e | e | e | e <;> rw [e] <;> simp only [len_app, wl1, l1] <;> omega
  · rcases hy with e | e | e | e | e <;> rw [e]
    · exact strOk_app (strOk_app p1k co) q1k
    · exact strOk_app p1k q2k
    · exact strOk_app (strOk_app p1k co) q2k
    · exact strOk_app p2k q1k
    · exact strOk_app (strOk_app p1k bo) q1k
end
end Aw

namespace Aw
open PySem L2
def spLaw (K : PySem.W.Frag) : Sp := fun vs H Q _ => ∃ (a : Addr) (ns : List Int), vs = [.ref a] ∧ SqL K H a (ns.map V.int) ∧ ns.length ≤ 63 ∧ ∀ H', Q (.bl true) H'
/-- a def of the top as it is called -/
structure Df (P : Program) (w : World) (K : PySem.W.Frag) (mg : Str → Option Value) (base : Heap) (CX : CXT) (k : Nat) (x : Str) (ps : List Str) (sp : Sp) (f : Addr) (fd : FuncData) : Prop where
  ok : FnOk P w K mg base CX k f fd ps sp
  b : Binds K fd ps []
  k : PySem.W.keepIn K (.ref f) = true
  m : mg x = some (.ref f)
theorem byWords_of {ws : List Str} {z : Str} {t : T} {j : Nat} (e : levelM ws (pieceM ws 3) kinds 0 = some (t, j)) : byWords ws z = if j = ws.length ∧ ws.length ≤ 40 ∧ z.length ≤ 400 then some t else none := by
  unfold byWords
  rw [e]
def spTree03 (K : PySem.W.Frag) : Sp := fun vs H Q _ => ∃ (dd nl : Addr) (nms : List Str) (k : Int), vs = [.ref dd, .ref nl, .int k] ∧ (k = 0 ∨ k = 1 ∨ k = 2 ∨ k = 3) ∧ DiceAt H dd ∧ H nl = some (.lst (nms.map V.str)) ∧ 0 < nms.length ∧ nms.length ≤ 100 ∧
  ∀ v H' t, But dd H H' → DiceAt H' dd → LA (fresh H H') v t → TOk (· ∈ nms) 3 t → Q v H'
theorem tok_up {P : Str → Prop} : ∀ (d : Nat) {t : T}, TOk P d t → TOk P (d + 1) t
  | d, .num n, h => .mkNum h.num
  | d, .name s, h => .mkName h.name
  | 0, .gate _ _ _, h => h.elim
  | 0, .join _ _, h => h.elim
  | d + 1, .gate s b t, h => ⟨h.1, h.2.1, h.2.2.1, tok_up d h.2.2.2⟩
  | d + 1, .join k ts, h => ⟨h.1, h.2.1, fun t ht => tok_up d (h.2.2 t ht)⟩
theorem wr_ok {t : T} {P : Str → Prop} (hP : ∀ s, P s → NameOk s) : ∀ (d : Nat) {t : T} (f : Int), TOk P d t → PyData.strOk (wr f t) = true
  | d, .num n, f, h => by
    unfold wr
    exact strOk_iff.mpr fun c hc => by
      have q : ∀ c ∈ FIG, c < 0x110000 := by decide +kernel
      exact q c ((num_facts h.num).2.1 c hc)
  | d, .name s, f, h => by unfold wr; exact strOk_name (hP _ h.name)
  | 0, .gate _ _ _, _, h => h.elim
  | 0, .join _ _, _, h => h.elim
  | d + 1, .gate s b t, f, h => by
    obtain ⟨h1, h2, h3, h4⟩ := h
    have o1 : PyData.strOk "[" = true := by decide +kernel
    have o2 : PyData.strOk " " = true := by decide +kernel
    have o3 : PyData.strOk "] " = true := by decide +kernel
    have ob : PyData.strOk (tx b) = true := strOk_iff.mpr fun c hc => by
      have q : ∀ c ∈ FIG, c < 0x110000 := by decide +kernel
      exact q c ((num_facts ⟨by omega, h3⟩).2.1 c hc)
    unfold wr
    exact strOk_app (strOk_app (strOk_app (strOk_app (strOk_app o1 (strOk_name (hP _ h1))) o2) ob) o3) (wr_ok (t := t) hP d 4 h4)
  | d + 1, .join k ts, f, h => by
    obtain ⟨h1, h2, h3⟩ := h
    have os : PyData.strOk k.sep = true := by cases k <;> decide +kernel
    have o1 : PyData.strOk "(" = true := by decide +kernel
    have o2 : PyData.strOk ")" = true := by decide +kernel
    have oe : PyData.strOk Str.empty = true := by decide +kernel
    have all : ∀ l : List T, (∀ t ∈ l, TOk P d t) → PyData.strOk (wrs k.sep (k.rank + 1) l) = true := by
      intro l
      induction l with
      | nil => intro _; unfold wrs; exact oe
      | cons u r ih =>
        intro hl
        cases r with
        | nil => rw [wrs_one]; exact wr_ok (t := u) hP d _ (hl u List.mem_cons_self)
        | cons v r => rw [wrs_two]; exact strOk_app (strOk_app (wr_ok (t := u) hP d _ (hl u List.mem_cons_self)) os) (ih fun x hx => hl x (List.mem_cons_of_mem _ hx))
    unfold wr
    split
    · exact strOk_app (strOk_app o1 (all ts h3)) o2
    · exact all ts h3
/-- what found is -/
def Fd36 (H : Hp) (z : Str) (v6 v7 : V) : Prop := (v7 = .non ∧ readM z = none) ∨
  ∃ (wl av : Addr) (ws : List Str) (t : T) (j : Nat) (v : V), v6 = .ref wl ∧ H wl = some (.lst (ws.map V.str)) ∧ v7 = .ref av ∧ H av = some (.tup [v, .int ((j : Nat) : Int)]) ∧ LA H v t ∧ levelM ws (pieceM ws 3) kinds 0 = some (t, j) ∧ readM z = byWords ws z
section
variable {P : Program} {w : World} {K : PySem.W.Frag} {mg : Str → Option Value} {base : Heap} {f : Addr} {fd : FuncData} {N : Addr}
variable {f1 f2 f3 f4 f5 f6 f7 f8 f9 f10 f11 : Addr} {d1 d2 d3 d4 d5 d6 d7 d8 d9 d10 d11 : FuncData}
theorem tree03 (G0 : FnOk P w K mg base CX0 2 f d1 ["_law_dice_here", "_law_names_here", "_law_deep"] (spTree K 0)) (G1 : FnOk P w K mg base CX0 3 f d1 ["_law_dice_here", "_law_names_here", "_law_deep"] (spTree K 1)) (G2 : FnOk P w K mg base CX0 4 f d1 ["_law_dice_here", "_law_names_here", "_law_deep"] (spTree K 2)) (G3 : FnOk P w K mg base CX0 5 f d1 ["_law_dice_here", "_law_names_here", "_law_deep"] (spTree K 3)) :
    FnOk P w K mg base CX0 5 f d1 ["_law_dice_here", "_law_names_here", "_law_deep"] (spTree03 K) := ⟨fun vs H Q E h => (by obtain ⟨dd, nl, nms, k, rfl, _⟩ := h; rfl), fun A outer s H args us vs Q E hr he hb hv hs => by
    obtain ⟨dd, nl, nms, k, ev, hk, D, hn, h0, h100, q⟩ := hs
    subst ev
    rcases hk with e | e | e | e
    · subst e; exact (G0.mono (by decide)).run A outer s H args us _ Q E hr he hb hv ⟨dd, nl, nms, rfl, D, hn, h0, h100, fun v H' t b D' l tk => q v H' t b D' l (tok_up 2 (tok_up 1 (tok_up 0 tk)))⟩
    · subst e; exact (G1.mono (by decide)).run A outer s H args us _ Q E hr he hb hv ⟨dd, nl, nms, rfl, D, hn, h0, h100, fun v H' t b D' l tk => q v H' t b D' l (tok_up 2 (tok_up 1 tk))⟩
    · subst e; exact (G2.mono (by decide)).run A outer s H args us _ Q E hr he hb hv ⟨dd, nl, nms, rfl, D, hn, h0, h100, fun v H' t b D' l tk => q v H' t b D' l (tok_up 2 tk)⟩
    · subst e; exact G3.run A outer s H args us _ Q E hr he hb hv ⟨dd, nl, nms, rfl, D, hn, h0, h100, q⟩⟩
set_option maxHeartbeats 0 in
theorem ok_law36 (F : Fun K "law" "law" s_law f fd) (zl : mg "len" = none) (zr : mg "range" = none)
    (C : Df P w K mg base CX0 1 "_law_cell_at" ["_law_script", "_law_k"] (spCell K) f1 d1) (D : Df P w K mg base CX0 1 "_law_dice" ["_law_cell"] spDice f2 d2) (Nm : Df P w K mg base CX0 1 "_law_names" ["_law_cell", "_law_many"] spNames f3 d3)
    (Rl : Df P w K mg base CX0 1 "_law_roll" ["_law_dice_here", "_law_most"] spRoll f4 d4) (Tr : Df P w K mg base CX0 5 "_law_tree" ["_law_dice_here", "_law_names_here", "_law_deep"] (spTree03 K) f5 d5)
    (Bn : Df P w K mg base CX0 2 "_law_bent" ["_law_dice_here", "_law_text"] spBent f6 d6) (Pt : Df P w K mg base CX0 1 "_law_parted" ["_law_text"] spParted f7 d7) (Ch : Df P w K mg base CX0 16 "_law_chain" ["_law_words", "_law_at", "_law_deep", "_law_rank"] (spChain 2 1) f8 d8)
    (Rf : Df P w K mg base CX0 28 "_law_refused" ["_law_text"] spRef f9 d9) (Rd : Df P w K mg base (L2.CX P w) 27 "read" ["text"] (spRead N) f10 d10)
    (Wr : Df P w K mg base CX0 17 "_law_written" ["_law_tree_here", "_law_firm"] (spWritten 16) f11 d11) {fs : Addr} {ds : FuncData} (Sh : Df P w K mg base CX0 33 "shown" ["recipe"] (spShown 16) fs ds) : FnOk P w K mg base CX0 34 f fd ["_law_script"] (spLaw K) := by
  refine F.ok sc_law (fun vs H Q E h => ?_) (fun cdv A outer s H vs Q E hr h => ?_)
  · obtain ⟨a, ns, rfl, _⟩ := h
    rfl
  obtain ⟨a, ns, rfl, hS, h63, q⟩ := h
  have nd := sc_law.nd
  have hr1 : Room 1 _ := hr.mono (by decide)
  have hr2 : Room 2 _ := hr.mono (by decide)
  have hr5 : Room 5 _ := hr.mono (by decide)
  have hr16 : Room 16 _ := hr.mono (by decide)
  have hr17 : Room 17 _ := hr.mono (by decide)
  have hr27 : Room 27 _ := hr.mono (by decide)
  have hr28 : Room 28 _ := hr.mono (by decide)
  have hr33 : Room 33 _ := hr.mono (by decide)
  refine ⟨_, pss_cons (ps_set (i := 1) nd rfl (.inl rfl) (pe_call Nm.ok hr1 rfl Nm.m Nm.k Nm.b .nil pass0 (pa_cons (pe_call C.ok hr1 rfl C.m C.k C.b .nil pass0 (pa_cons (pv 0) (pa_cons pe_int pa_nil)))
      (pa_cons (pe_op op_add pe_int (pe_op op_mod (pe_call C.ok hr1 rfl C.m C.k C.b .nil pass0 (pa_cons (pv 0) (pa_cons pe_int pa_nil))) pe_int)) pa_nil))))
    (pss_cons (ps_for PassesOwn.never rfl (pi_range1 rfl zr (pa_cons pe_int pa_nil)) (pg_name (i := 2) nd rfl (.inl rfl))
      (pss_cons (ps_set (i := 3) nd rfl (.inl rfl) (pe_call D.ok hr1 rfl D.m D.k D.b .nil pass0 (pa_cons (pe_call C.ok hr1 rfl C.m C.k C.b .nil pass0 (pa_cons (pv 0) (pa_cons (pe_op op_add pe_int (pv 2)) pa_nil))) pa_nil)))
      (pss_cons (ps_set (i := 4) nd rfl (.inl rfl) (pe_call Wr.ok hr17 rfl Wr.m Wr.k Wr.b .nil pass0 (pa_cons (pe_call Tr.ok hr5 rfl Tr.m Tr.k Tr.b .nil pass0 (pa_cons (pv 3) (pa_cons (pv 1) (pa_cons (pe_call Rl.ok hr1 rfl Rl.m Rl.k Rl.b .nil pass0 (pa_cons (pv 3) (pa_cons pe_int pa_nil))) pa_nil)))) (pa_cons pe_int pa_nil))))
      (pss_cons (ps_for PassesOwn.never rfl (pi_range1 rfl zr (pa_cons (pe_op op_add pe_int (pe_call Rl.ok hr1 rfl Rl.m Rl.k Rl.b .nil pass0 (pa_cons (pv 3) (pa_cons pe_int pa_nil)))) pa_nil)) (pg_name (i := 5) nd rfl (.inl rfl))
        (pss_one (ps_set (i := 4) nd rfl (.inl rfl) (pe_call Bn.ok hr2 rfl Bn.m Bn.k Bn.b .nil pass0 (pa_cons (pv 3) (pa_cons (pv 4) pa_nil))))))
      (C8.pss_cut (ps_set (i := 6) nd rfl (.inl rfl) (pe_call Pt.ok hr1 rfl Pt.m Pt.k Pt.b .nil pass0 (pa_cons (pv 4) pa_nil)))
      (C8.pss_cut (ps_set (i := 7) nd rfl (.inl rfl) (pe_ifExp (pt_cmpR op_notN (pv 6) pe_non (nomark _)) (pe_call Ch.ok hr16 rfl Ch.m Ch.k Ch.b .nil pass0 (pa_cons (pv 6) (pa_cons pe_int (pa_cons pe_int (pa_cons pe_int pa_nil))))) pe_non))
      (pss_one (ps_if (PW.pt (pw_or (pt_cmpR op_isN (pv 7) pe_non (nomark _)) (pw_or (pt_cmpR op_ne (pe_ix ix_tup (pv 7) pe_int (fun _ _ => rfl)) (pe_callB call_len_seq (by rfl) zl PySem.boot_len (pa_cons (pv 6) pa_nil)) (nomark _))
          (pw_or (pt_cmpR op_gt (pe_callB call_len_seq (by rfl) zl PySem.boot_len (pa_cons (pv 6) pa_nil)) pe_int (nomark _)) (pw_or1 (pt_cmpR op_gt (pe_callB call_len_str (by rfl) zl PySem.boot_len (pa_cons (pv 4) pa_nil)) pe_int (nomark _)))))))
        (pss_one (ps_if (PW.pt (pw_or (pt_not (pt_val (pe_call Rf.ok hr28 rfl Rf.m Rf.k Rf.b .nil pass0 (pa_cons (pv 4) pa_nil)))) (pw_or1 (pt_not (pt_val (pe_call Rf.ok hr28 rfl Rf.m Rf.k Rf.b .nil pass0 (pa_cons (pv 4) pa_nil))))))) (pss_one (ps_ret pe_bl)) pss_nil))
        (pss_one (ps_if (PW.pt (pw_or (pt_cmpR op_ne (pe_call Sh.ok hr33 rfl Sh.m Sh.k Sh.b .nil pass0 (pa_cons (pe_call (E := E0) Rd.ok hr27 rfl Rd.m Rd.k Rd.b .nil passL (pa_cons (pv 4) pa_nil)) pa_nil)) (pe_call Wr.ok hr17 rfl Wr.m Wr.k Wr.b .nil pass0 (pa_cons (pe_ix ix_tup (pv 7) pe_int (fun _ _ => rfl)) (pa_cons pe_int pa_nil))) (nomark _))
          (pw_or1 (pt_cmpR op_ne (pe_call Sh.ok hr33 rfl Sh.m Sh.k Sh.b .nil pass0 (pa_cons (pe_call (E := E0) Rd.ok hr27 rfl Rd.m Rd.k Rd.b .nil passL (pa_cons (pe_call Sh.ok hr33 rfl Sh.m Sh.k Sh.b .nil pass0 (pa_cons (pe_call (E := E0) Rd.ok hr27 rfl Rd.m Rd.k Rd.b .nil passL (pa_cons (pv 4) pa_nil)) pa_nil)) pa_nil)) pa_nil))
            (pe_call Sh.ok hr33 rfl Sh.m Sh.k Sh.b .nil pass0 (pa_cons (pe_call (E := E0) Rd.ok hr27 rfl Rd.m Rd.k Rd.b .nil passL (pa_cons (pv 4) pa_nil)) pa_nil)) (nomark _))))) (pss_one (ps_ret pe_bl)) pss_nil))))))))))
    (pss_one (ps_ret pe_bl))), ?_⟩
  refine ⟨_, rfl, a, ns, 0, rfl, hS, h63, fun c0 => ?_⟩
  refine ⟨_, rfl, a, ns, 1, rfl, hS, h63, fun c1 => ?_⟩
  have m0 : 0 ≤ c1 % 3 := Int.emod_nonneg _ (by decide)
  have m1 : c1 % 3 < 3 := Int.emod_lt_of_pos _ (by decide)
  refine ⟨_, _, rfl, rfl, (by show (0 : Int) < 3; decide), _, _, rfl, rfl, c0, 1 + c1 % 3, rfl, by omega, by omega, fun l H1 nms s1 hl e1 hlen hok => ?_⟩
  refine ⟨3, rfl, by decide, by decide, ?_⟩
  refine for_range (lo := 0) (n := 3) (fun i σ H' => Same H1 H' ∧ ∃ v2 v3 v4 v5 v6 v7 : Option V, σ = [some (.ref a), some (.ref l), v2, v3, v4, v5, v6, v7]) ⟨Same.refl _, _, _, _, _, _, _, rfl⟩ ?_ (fun σ H' _ => q H')
  rintro i σ H2 hi ⟨s2, v2, v3, v4, v5, v6, v7, rfl⟩
  refine ⟨_, rfl, _, rfl, _, _, rfl, rfl, a, ns, 2 + i, (by show [V.ref a, V.int ((2 : Int) + (0 + (i : Int)))] = _; rw [show (2 : Int) + (0 + (i : Int)) = ((2 + i : Nat) : Int) by omega]), (s1.trans s2).seq hS, h63, fun c2 => ?_⟩
  refine ⟨c2, rfl, fun dd H3 s3 hdd D3 => ?_⟩
  have e3 := s3 _ _ (s2 _ _ e1)
  have hd1 : H1 dd = none := s2.free hdd
  refine ⟨_, rfl, _, rfl, _, rfl, dd, 4, rfl, D3, by decide, by decide, fun r H4 r0 r1 b4 D4 => ?_⟩
  refine ⟨dd, l, nms, r, rfl, by omega, D4, nl_keep D3 e3 (by omega) b4, by omega, by omega, fun tv H5 t0 b5 D5 lv0 tk0 => ?_⟩
  have tk3 : TOk NameOk 3 t0 := TOk.imp hok 3 tk0
  obtain ⟨wf0, dp0, sz0⟩ := ok_WF 3 tk3
  have wl0 := wr_len (fun s h => nameOk_len h) 3 0 tk3
  have lb3 : LB 3 = 422 := rfl
  refine ⟨tv, t0, 0, rfl, lv0.mono (.of_same fresh_sub), wf0, by omega, by omega, fun H6 s6 => ?_⟩
  have D6 := D5.mono s6
  have b36 : But dd H3 H6 := (b4.trans b5).trans (.of_same s6)
  refine ⟨_, rfl, dd, 3, rfl, D6, by decide, by decide, fun n H7 n0 n1 b7 D7 => ?_⟩
  refine ⟨_, _, rfl, rfl, 1 + n, rfl, by omega, by omega, for_range (lo := 0) (n := (1 + n).toNat) (fun k σ H' => ∃ (z : Str) (w5 : Option V), σ = [some (.ref a), some (.ref l), some (.int (0 + (i : Int))), some (.ref dd), some (.str z), w5, v6, v7] ∧ But dd H3 H' ∧ DiceAt H' dd ∧ z.length ≤ 422 + k ∧ PyData.strOk z = true)
    ⟨wr 0 t0, _, rfl, b36.trans b7, D7, by omega, wr_ok (t := t0) (fun _ h => h) 3 0 tk3⟩ ?_ ?_⟩
  · rintro k σ H8 hk ⟨z, w5, rfl, b8, D8, zl8, zo⟩
    have hk4 : k < 4 := by omega
    exact ⟨_, rfl, _, rfl, dd, z, rfl, D8, by omega, zo, fun z' H9 b9 D9 zl9 zo9 => ⟨z', _, rfl, b8.trans b9, D9, by omega, zo9⟩⟩
  rintro σ H8 ⟨z, w5, rfl, b8, D8, zl8, zo⟩
  have hn3 : (1 + n).toNat ≤ 3 := by omega
  have zl : z.length ≤ 425 := by omega
  have s18 : Same H1 H8 := fun b o e => b8 b o (s3 b o (s2 b o e)) (ne_of_none e hd1)
  refine ⟨fun σ' H' => ∃ u6 : V, σ' = [some (.ref a), some (.ref l), some (.int (0 + (i : Int))), some (.ref dd), some (.str z), w5, some u6, v7] ∧ Same H8 H' ∧ ((u6 = .non ∧ lexM z = none) ∨ ∃ wl ws, u6 = .ref wl ∧ lexM z = some ws ∧ H' wl = some (.lst (ws.map V.str)) ∧ LWs ws), ?_, ?_⟩
  · refine ⟨_, rfl, z, rfl, by omega, zo, fun en H9 s9 => ⟨.non, rfl, s9, .inl ⟨rfl, en⟩⟩, fun ws e wl H9 s9 hn9 e9 W => ⟨.ref wl, rfl, s9, .inr ⟨wl, ws, rfl, e, e9, W⟩⟩⟩
  rintro σ' H9 ⟨u6, rfl, s9, hu⟩
  refine ⟨fun σ' H' => ∃ u7 : V, σ' = [some (.ref a), some (.ref l), some (.int (0 + (i : Int))), some (.ref dd), some (.str z), w5, some u6, some u7] ∧ Same H8 H' ∧ Fd36 H' z u6 u7, ?_, ?_⟩
  · refine ⟨_, rfl, rfl, _, rfl, ?_⟩
    rcases hu with ⟨rfl, en⟩ | ⟨wl, ws, rfl, el, ew, W⟩
    · refine iteF ⟨.non, rfl, s9, .inl ⟨rfl, ?_⟩⟩
      unfold readM
      rw [en]
      split <;> rfl
    · refine iteT ⟨_, rfl, wl, ws, 0, rfl, ew, W, ?_⟩
      have er := read_lex el (lex_ne _ (fun w => by rcases w with w | w <;> cases w) (fun w hw => by cases hw) el)
      cases e : levelM ws (pieceM ws (2 + 1)) (ks 1) 0 with
      | none =>
        intro H10 s10
        refine ⟨.non, rfl, s9.trans s10, .inl ⟨rfl, ?_⟩⟩
        rw [er]
        unfold byWords
        rw [show levelM ws (pieceM ws 3) kinds 0 = none from e]
      | some x =>
        obtain ⟨t, j⟩ := x
        intro av v H10 s10 hn10 e10 lv
        exact ⟨.ref av, rfl, s9.trans s10, .inr ⟨wl, av, ws, t, j, v, rfl, s10 _ _ ew, rfl, e10, lv.mono (.of_same fresh_sub), e, er⟩⟩
  rintro σ' H10 ⟨u7, rfl, s10, fd⟩
  have fin : ∀ {H' : Hp}, Same H10 H' → Same H1 H' := fun s => (s18.trans s10).trans s
  have nn : (!true) = false := rfl
  rcases fd with ⟨rfl, en⟩ | ⟨wl, av, ws, t, j, v, rfl, ew, rfl, ea, lv, el, er⟩
  · exact ⟨_, rfl, rfl, _, rfl, iteT ⟨_, rfl, z, rfl, by omega, en, fun H11 s11 => ⟨_, rfl, iteF ⟨_, rfl, z, rfl, by omega, en, fun H12 s12 => ⟨_, rfl, iteF ⟨fin (s11.trans s12), _, _, _, _, _, _, rfl⟩⟩⟩⟩⟩⟩
  · rw [byWords_of el] at er
    have R := level_fit (piece_fit 3) _ _ _ el
    refine ⟨_, rfl, rfl, _, rfl, ?_⟩
    rw [show decide (V.ref av = V.non) = false from rfl]
    refine iteF ⟨_, rfl, av, _, _, _, rfl, rfl, SqT.of ea, rfl, _, rfl, wl, _, rfl, .inl (SqL.of ew), rfl, _, rfl, ?_⟩
    rw [List.length_map]
    have jd : (!decide (V.int ((j : Nat) : Int) = V.int ((ws.length : Nat) : Int))) = !decide (j = ws.length) := by
      congr 1
      exact decide_eq_decide.mpr ⟨fun h => by have := V.int.inj h; omega, fun h => by rw [h]⟩
    rw [jd]
    by_cases c1 : j = ws.length
    · rw [decide_eq_true c1]
      refine iteF ⟨_, rfl, wl, _, rfl, .inl (SqL.of ew), _, _, rfl, rfl, _, rfl, ?_⟩
      rw [List.length_map]
      by_cases c2 : ws.length ≤ 40
      · rw [show decide ((40 : Int) < (ws.length : Int)) = false from decide_eq_false (by omega)]
        refine iteF ⟨_, rfl, _, rfl, big (by omega), _, _, rfl, rfl, _, rfl, ?_⟩
        by_cases c3 : z.length ≤ 400
        · rw [show decide ((400 : Int) < (z.length : Int)) = false from decide_eq_false (by omega)]
          rw [if_pos ⟨c1, c2, c3⟩] at er
          have w40 : (ww 1 t).length ≤ 40 := by have := R.wl; omega
          obtain ⟨wf, dp, sz⟩ := R.fit.ok (by decide) (by decide) w40
          have er2 := read_fit R.fit w40
          have l0 := wr_Sz t 0 wf
          refine iteF ?_
          refine ⟨_, rfl, z, rfl, big (by omega), fun t' et x1 H11 s11 ta => ?_, fun en => by rw [er] at en; cases en⟩
          rw [er] at et
          cases et
          refine ⟨x1, t, rfl, ta, wf, dp, by omega, fun H12 s12 => ?_⟩
          refine ⟨_, rfl, av, _, _, _, rfl, rfl, SqT.of (s12 _ _ (s11 _ _ ea)), rfl, v, t, 0, rfl, lv.mono (.of_same (s11.trans s12)), wf, dp, by omega, fun H13 s13 => ?_⟩
          refine ⟨rfl, _, rfl, ?_⟩
          rw [decide_eq_true rfl]
          refine iteF ?_
          refine ⟨_, rfl, z, rfl, big (by omega), fun t' et x2 H14 s14 ta2 => ?_, fun en => by rw [er] at en; cases en⟩
          rw [er] at et
          cases et
          refine ⟨x2, t, rfl, ta2, wf, dp, by omega, fun H15 s15 => ?_⟩
          refine ⟨wr 0 t, rfl, big (by omega), fun t' et x3 H16 s16 ta3 => ?_, fun en => by rw [er2] at en; cases en⟩
          rw [er2] at et
          cases et
          refine ⟨x3, t, rfl, ta3, wf, dp, by omega, fun H17 s17 => ?_⟩
          refine ⟨_, rfl, z, rfl, big (by omega), fun t' et x4 H18 s18' ta4 => ?_, fun en => by rw [er] at en; cases en⟩
          rw [er] at et
          cases et
          refine ⟨x4, t, rfl, ta4, wf, dp, by omega, fun H19 s19 => ?_⟩
          refine ⟨rfl, _, rfl, ?_⟩
          rw [decide_eq_true rfl]
          exact iteF ⟨fin ((((s11.trans s12).trans s13).trans (s14.trans s15)).trans ((s16.trans s17).trans (s18'.trans s19))), _, _, _, _, _, _, rfl⟩
        · rw [show decide ((400 : Int) < (z.length : Int)) = true from decide_eq_true (by omega)]
          rw [if_neg (fun w => c3 w.2.2)] at er
          exact iteT ⟨_, rfl, z, rfl, by omega, er, fun H11 s11 => ⟨_, rfl, iteF ⟨_, rfl, z, rfl, by omega, er, fun H12 s12 => ⟨_, rfl, iteF ⟨fin (s11.trans s12), _, _, _, _, _, _, rfl⟩⟩⟩⟩⟩
      · rw [show decide ((40 : Int) < (ws.length : Int)) = true from decide_eq_true (by omega)]
        rw [if_neg (fun w => c2 w.2.1)] at er
        exact iteT ⟨_, rfl, z, rfl, by omega, er, fun H11 s11 => ⟨_, rfl, iteF ⟨_, rfl, z, rfl, by omega, er, fun H12 s12 => ⟨_, rfl, iteF ⟨fin (s11.trans s12), _, _, _, _, _, _, rfl⟩⟩⟩⟩⟩
    · rw [decide_eq_false c1]
      rw [if_neg (fun w => c1 w.1)] at er
      exact iteT ⟨_, rfl, z, rfl, by omega, er, fun H11 s11 => ⟨_, rfl, iteF ⟨_, rfl, z, rfl, by omega, er, fun H12 s12 => ⟨_, rfl, iteF ⟨fin (s11.trans s12), _, _, _, _, _, _, rfl⟩⟩⟩⟩⟩
end
end Aw

namespace Aw
open PySem L2
theorem all_shown {P : Program} {w : World} {K : PySem.W.Frag} {mg : Str → Option Value} {base : Heap} {fs fw : Addr} {ds dw : FuncData} (Fs : Fun K "shown" "shown" s_shown fs ds) (Fw : Fun K "shown_within" "shown_within" s_shown_within fw dw) (st : mg "str" = none) (TC : TxtC K mg w) (TB : TxtB K mg w)
    (bs : Binds K ds ["recipe"] []) (ks : PySem.W.keepIn K (.ref fs) = true) (ms : mg "shown" = some (.ref fs)) (bw : Binds K dw ["kind", "piece"] []) (kw : PySem.W.keepIn K (.ref fw) = true) (mw : mg "shown_within" = some (.ref fw)) :
    ∀ n : Nat, FnOk P w K mg base CX0 (2 * n + 1) fs ds ["recipe"] (spShown n)
  | 0 => ok_shown0 Fs st
  | n + 1 => ok_shownS (by omega) Fs st TC (ok_within Fw TB (all_shown Fs Fw st TC TB bs ks ms bw kw mw n) bs ks ms) bw kw mw
theorem all_written {P : Program} {w : World} {K : PySem.W.Frag} {mg : Str → Option Value} {base : Heap} {f : Addr} {fd : FuncData} (F : Fun K "_law_written" "_law_written" s_law_written f fd) (T : TxtL K mg) (b : Binds K fd ["_law_tree_here", "_law_firm"] []) (m : mg "_law_written" = some (.ref f)) :
    ∀ n : Nat, FnOk P w K mg base CX0 (n + 1) f fd ["_law_tree_here", "_law_firm"] (spWritten n)
  | 0 => ok_written0 F T
  | n + 1 => ok_writtenS (by omega) F T (all_written F T b m n) b m
end Aw

namespace Aw
open PySem L2
set_option maxHeartbeats 0 in
theorem all_mk {l : PySem.W.OpenLaw} {w : World} {K : PySem.W.Frag} {h : Heap} {mg : Str → Option Value} {fa C : Addr} (X : K.In h) (G : h.Ns mainGlobals mg) (hfa : mg "law" = some (.ref fa))
    {f_number_piece : Addr} {od_number_piece an_number_piece : Option Addr} {sl_number_piece : Array (Option Value)} {oc_number_piece kV_number_piece dc_number_piece pm_number_piece cd_number_piece ct_number_piece : Value}
    {f_name_piece : Addr} {od_name_piece an_name_piece : Option Addr} {sl_name_piece : Array (Option Value)} {oc_name_piece kV_name_piece dc_name_piece pm_name_piece cd_name_piece ct_name_piece : Value}
    {f_gate_piece : Addr} {od_gate_piece an_gate_piece : Option Addr} {sl_gate_piece : Array (Option Value)} {oc_gate_piece kV_gate_piece dc_gate_piece pm_gate_piece cd_gate_piece ct_gate_piece : Value}
    {f_joined_piece : Addr} {od_joined_piece an_joined_piece : Option Addr} {sl_joined_piece : Array (Option Value)} {oc_joined_piece kV_joined_piece dc_joined_piece pm_joined_piece cd_joined_piece ct_joined_piece : Value}
    {f_shown : Addr} {od_shown an_shown : Option Addr} {sl_shown : Array (Option Value)} {oc_shown kV_shown dc_shown pm_shown cd_shown ct_shown : Value}
    {f_shown_within : Addr} {od_shown_within an_shown_within : Option Addr} {sl_shown_within : Array (Option Value)} {oc_shown_within kV_shown_within dc_shown_within pm_shown_within cd_shown_within ct_shown_within : Value}
    {f_Words_init : Addr} {od_Words_init an_Words_init : Option Addr} {sl_Words_init : Array (Option Value)} {oc_Words_init kV_Words_init dc_Words_init pm_Words_init cd_Words_init ct_Words_init : Value}
    {f_Words_ahead : Addr} {od_Words_ahead an_Words_ahead : Option Addr} {sl_Words_ahead : Array (Option Value)} {oc_Words_ahead kV_Words_ahead dc_Words_ahead pm_Words_ahead cd_Words_ahead ct_Words_ahead : Value}
    {f_Words_taken : Addr} {od_Words_taken an_Words_taken : Option Addr} {sl_Words_taken : Array (Option Value)} {oc_Words_taken kV_Words_taken dc_Words_taken pm_Words_taken cd_Words_taken ct_Words_taken : Value}
    {f_Words_expect : Addr} {od_Words_expect an_Words_expect : Option Addr} {sl_Words_expect : Array (Option Value)} {oc_Words_expect kV_Words_expect dc_Words_expect pm_Words_expect cd_Words_expect ct_Words_expect : Value}
    {f_read : Addr} {od_read an_read : Option Addr} {sl_read : Array (Option Value)} {oc_read kV_read dc_read pm_read cd_read ct_read : Value}
    {f_words_of : Addr} {od_words_of an_words_of : Option Addr} {sl_words_of : Array (Option Value)} {oc_words_of kV_words_of dc_words_of pm_words_of cd_words_of ct_words_of : Value}
    {f_kind_of : Addr} {od_kind_of an_kind_of : Option Addr} {sl_kind_of : Array (Option Value)} {oc_kind_of kV_kind_of dc_kind_of pm_kind_of cd_kind_of ct_kind_of : Value}
    {f_read_level : Addr} {od_read_level an_read_level : Option Addr} {sl_read_level : Array (Option Value)} {oc_read_level kV_read_level dc_read_level pm_read_level cd_read_level ct_read_level : Value}
    {f_read_piece : Addr} {od_read_piece an_read_piece : Option Addr} {sl_read_piece : Array (Option Value)} {oc_read_piece kV_read_piece dc_read_piece pm_read_piece cd_read_piece ct_read_piece : Value}
    {f_read_gate : Addr} {od_read_gate an_read_gate : Option Addr} {sl_read_gate : Array (Option Value)} {oc_read_gate kV_read_gate dc_read_gate pm_read_gate cd_read_gate ct_read_gate : Value}
    {f_is_name : Addr} {od_is_name an_is_name : Option Addr} {sl_is_name : Array (Option Value)} {oc_is_name kV_is_name dc_is_name pm_is_name cd_is_name ct_is_name : Value}
    {f_number_of : Addr} {od_number_of an_number_of : Option Addr} {sl_number_of : Array (Option Value)} {oc_number_of kV_number_of dc_number_of pm_number_of cd_number_of ct_number_of : Value}
    {f_law_cell_at : Addr} {od_law_cell_at an_law_cell_at : Option Addr} {sl_law_cell_at : Array (Option Value)} {oc_law_cell_at kV_law_cell_at dc_law_cell_at pm_law_cell_at cd_law_cell_at ct_law_cell_at : Value}
    {f_law_dice : Addr} {od_law_dice an_law_dice : Option Addr} {sl_law_dice : Array (Option Value)} {oc_law_dice kV_law_dice dc_law_dice pm_law_dice cd_law_dice ct_law_dice : Value}
    {f_law_roll : Addr} {od_law_roll an_law_roll : Option Addr} {sl_law_roll : Array (Option Value)} {oc_law_roll kV_law_roll dc_law_roll pm_law_roll cd_law_roll ct_law_roll : Value}
    {f_law_names : Addr} {od_law_names an_law_names : Option Addr} {sl_law_names : Array (Option Value)} {oc_law_names kV_law_names dc_law_names pm_law_names cd_law_names ct_law_names : Value}
    {f_law_tree : Addr} {od_law_tree an_law_tree : Option Addr} {sl_law_tree : Array (Option Value)} {oc_law_tree kV_law_tree dc_law_tree pm_law_tree cd_law_tree ct_law_tree : Value}
    {f_law_written : Addr} {od_law_written an_law_written : Option Addr} {sl_law_written : Array (Option Value)} {oc_law_written kV_law_written dc_law_written pm_law_written cd_law_written ct_law_written : Value}
    {f_law_is_name : Addr} {od_law_is_name an_law_is_name : Option Addr} {sl_law_is_name : Array (Option Value)} {oc_law_is_name kV_law_is_name dc_law_is_name pm_law_is_name cd_law_is_name ct_law_is_name : Value}
    {f_law_number : Addr} {od_law_number an_law_number : Option Addr} {sl_law_number : Array (Option Value)} {oc_law_number kV_law_number dc_law_number pm_law_number cd_law_number ct_law_number : Value}
    {f_law_single : Addr} {od_law_single an_law_single : Option Addr} {sl_law_single : Array (Option Value)} {oc_law_single kV_law_single dc_law_single pm_law_single cd_law_single ct_law_single : Value}
    {f_law_chain : Addr} {od_law_chain an_law_chain : Option Addr} {sl_law_chain : Array (Option Value)} {oc_law_chain kV_law_chain dc_law_chain pm_law_chain cd_law_chain ct_law_chain : Value}
    {f_law_refused : Addr} {od_law_refused an_law_refused : Option Addr} {sl_law_refused : Array (Option Value)} {oc_law_refused kV_law_refused dc_law_refused pm_law_refused cd_law_refused ct_law_refused : Value}
    {f_law_parted : Addr} {od_law_parted an_law_parted : Option Addr} {sl_law_parted : Array (Option Value)} {oc_law_parted kV_law_parted dc_law_parted pm_law_parted cd_law_parted ct_law_parted : Value}
    {f_law_bent : Addr} {od_law_bent an_law_bent : Option Addr} {sl_law_bent : Array (Option Value)} {oc_law_bent kV_law_bent dc_law_bent pm_law_bent cd_law_bent ct_law_bent : Value}
    {f_law : Addr} {od_law an_law : Option Addr} {sl_law : Array (Option Value)} {oc_law kV_law dc_law pm_law cd_law ct_law : Value}
    {tk1 tk2 tk3 tk4 tk5 tk6 tk7 tk8 tk9 tl1 tl2 tl3 tg1 tg2 tg3 : Tok} {aL aS : Addr} {odL : Option Addr} {nL nS : Nat} {slL : Array (Option Value)} {esS : Array DictEntry}
    {aB bG bS bL bM : Addr} {oG oS oL oM : Option Addr} {nB nG nSu nLe nMo : Nat} {esB : Array DictEntry} {slG slS slL2 slM : Array (Option Value)} {u1 u2 u3 v1 v2 v3 w1 w2 w3 w4 x1 x2 x3 x4 x5 : Tok}
    {NN NB NF NP NR HE : Addr}
    (a_number_piece : PySem.W.nsIn K mainGlobals "number_piece" = some (some (.ref f_number_piece)))
    (l_number_piece : K.lookup f_number_piece = some ⟨oc_number_piece, od_number_piece, .func (PySem.W.fnOf "number_piece" "number_piece" (defArgs s_number_piece) (defBody s_number_piece) (defScope s_number_piece) .none kV_number_piece dc_number_piece pm_number_piece an_number_piece cd_number_piece ct_number_piece), sl_number_piece⟩) (c_number_piece : PySem.W.codeIn K cd_number_piece "number_piece" = true) (k_number_piece : PySem.W.keepIn K (.ref f_number_piece) = true)
    (a_name_piece : PySem.W.nsIn K mainGlobals "name_piece" = some (some (.ref f_name_piece)))
    (l_name_piece : K.lookup f_name_piece = some ⟨oc_name_piece, od_name_piece, .func (PySem.W.fnOf "name_piece" "name_piece" (defArgs s_name_piece) (defBody s_name_piece) (defScope s_name_piece) .none kV_name_piece dc_name_piece pm_name_piece an_name_piece cd_name_piece ct_name_piece), sl_name_piece⟩) (c_name_piece : PySem.W.codeIn K cd_name_piece "name_piece" = true) (k_name_piece : PySem.W.keepIn K (.ref f_name_piece) = true)
    (a_gate_piece : PySem.W.nsIn K mainGlobals "gate_piece" = some (some (.ref f_gate_piece)))
    (l_gate_piece : K.lookup f_gate_piece = some ⟨oc_gate_piece, od_gate_piece, .func (PySem.W.fnOf "gate_piece" "gate_piece" (defArgs s_gate_piece) (defBody s_gate_piece) (defScope s_gate_piece) .none kV_gate_piece dc_gate_piece pm_gate_piece an_gate_piece cd_gate_piece ct_gate_piece), sl_gate_piece⟩) (c_gate_piece : PySem.W.codeIn K cd_gate_piece "gate_piece" = true) (k_gate_piece : PySem.W.keepIn K (.ref f_gate_piece) = true)
    (a_joined_piece : PySem.W.nsIn K mainGlobals "joined_piece" = some (some (.ref f_joined_piece)))
    (l_joined_piece : K.lookup f_joined_piece = some ⟨oc_joined_piece, od_joined_piece, .func (PySem.W.fnOf "joined_piece" "joined_piece" (defArgs s_joined_piece) (defBody s_joined_piece) (defScope s_joined_piece) .none kV_joined_piece dc_joined_piece pm_joined_piece an_joined_piece cd_joined_piece ct_joined_piece), sl_joined_piece⟩) (c_joined_piece : PySem.W.codeIn K cd_joined_piece "joined_piece" = true) (k_joined_piece : PySem.W.keepIn K (.ref f_joined_piece) = true)
    (a_shown : PySem.W.nsIn K mainGlobals "shown" = some (some (.ref f_shown)))
    (l_shown : K.lookup f_shown = some ⟨oc_shown, od_shown, .func (PySem.W.fnOf "shown" "shown" (defArgs s_shown) (defBody s_shown) (defScope s_shown) .none kV_shown dc_shown pm_shown an_shown cd_shown ct_shown), sl_shown⟩) (c_shown : PySem.W.codeIn K cd_shown "shown" = true) (k_shown : PySem.W.keepIn K (.ref f_shown) = true)
    (a_shown_within : PySem.W.nsIn K mainGlobals "shown_within" = some (some (.ref f_shown_within)))
    (l_shown_within : K.lookup f_shown_within = some ⟨oc_shown_within, od_shown_within, .func (PySem.W.fnOf "shown_within" "shown_within" (defArgs s_shown_within) (defBody s_shown_within) (defScope s_shown_within) .none kV_shown_within dc_shown_within pm_shown_within an_shown_within cd_shown_within ct_shown_within), sl_shown_within⟩) (c_shown_within : PySem.W.codeIn K cd_shown_within "shown_within" = true) (k_shown_within : PySem.W.keepIn K (.ref f_shown_within) = true)
    (a_Words_init : PySem.W.findIn K (.ref C) "__init__" = some (some (.ref f_Words_init))) (i_Words_init : PySem.W.isFn K (.ref f_Words_init) = true)
    (l_Words_init : K.lookup f_Words_init = some ⟨oc_Words_init, od_Words_init, .func (PySem.W.fnOf "__init__" "Words.__init__" (defArgs s_Words_init) (defBody s_Words_init) (defScope s_Words_init) .none kV_Words_init dc_Words_init pm_Words_init an_Words_init cd_Words_init ct_Words_init), sl_Words_init⟩) (c_Words_init : PySem.W.codeIn K cd_Words_init "Words.__init__" = true) (k_Words_init : PySem.W.keepIn K (.ref f_Words_init) = true)
    (a_Words_ahead : PySem.W.findIn K (.ref C) "ahead" = some (some (.ref f_Words_ahead))) (i_Words_ahead : PySem.W.isFn K (.ref f_Words_ahead) = true)
    (l_Words_ahead : K.lookup f_Words_ahead = some ⟨oc_Words_ahead, od_Words_ahead, .func (PySem.W.fnOf "ahead" "Words.ahead" (defArgs s_Words_ahead) (defBody s_Words_ahead) (defScope s_Words_ahead) .none kV_Words_ahead dc_Words_ahead pm_Words_ahead an_Words_ahead cd_Words_ahead ct_Words_ahead), sl_Words_ahead⟩) (c_Words_ahead : PySem.W.codeIn K cd_Words_ahead "Words.ahead" = true) (k_Words_ahead : PySem.W.keepIn K (.ref f_Words_ahead) = true)
    (a_Words_taken : PySem.W.findIn K (.ref C) "taken" = some (some (.ref f_Words_taken))) (i_Words_taken : PySem.W.isFn K (.ref f_Words_taken) = true)
    (l_Words_taken : K.lookup f_Words_taken = some ⟨oc_Words_taken, od_Words_taken, .func (PySem.W.fnOf "taken" "Words.taken" (defArgs s_Words_taken) (defBody s_Words_taken) (defScope s_Words_taken) .none kV_Words_taken dc_Words_taken pm_Words_taken an_Words_taken cd_Words_taken ct_Words_taken), sl_Words_taken⟩) (c_Words_taken : PySem.W.codeIn K cd_Words_taken "Words.taken" = true) (k_Words_taken : PySem.W.keepIn K (.ref f_Words_taken) = true)
    (a_Words_expect : PySem.W.findIn K (.ref C) "expect" = some (some (.ref f_Words_expect))) (i_Words_expect : PySem.W.isFn K (.ref f_Words_expect) = true)
    (l_Words_expect : K.lookup f_Words_expect = some ⟨oc_Words_expect, od_Words_expect, .func (PySem.W.fnOf "expect" "Words.expect" (defArgs s_Words_expect) (defBody s_Words_expect) (defScope s_Words_expect) .none kV_Words_expect dc_Words_expect pm_Words_expect an_Words_expect cd_Words_expect ct_Words_expect), sl_Words_expect⟩) (c_Words_expect : PySem.W.codeIn K cd_Words_expect "Words.expect" = true) (k_Words_expect : PySem.W.keepIn K (.ref f_Words_expect) = true)
    (a_read : PySem.W.nsIn K mainGlobals "read" = some (some (.ref f_read)))
    (l_read : K.lookup f_read = some ⟨oc_read, od_read, .func (PySem.W.fnOf "read" "read" (defArgs s_read) (defBody s_read) (defScope s_read) .none kV_read dc_read pm_read an_read cd_read ct_read), sl_read⟩) (c_read : PySem.W.codeIn K cd_read "read" = true) (k_read : PySem.W.keepIn K (.ref f_read) = true)
    (a_words_of : PySem.W.nsIn K mainGlobals "words_of" = some (some (.ref f_words_of)))
    (l_words_of : K.lookup f_words_of = some ⟨oc_words_of, od_words_of, .func (PySem.W.fnOf "words_of" "words_of" (defArgs s_words_of) (defBody s_words_of) (defScope s_words_of) .none kV_words_of dc_words_of pm_words_of an_words_of cd_words_of ct_words_of), sl_words_of⟩) (c_words_of : PySem.W.codeIn K cd_words_of "words_of" = true) (k_words_of : PySem.W.keepIn K (.ref f_words_of) = true)
    (a_kind_of : PySem.W.nsIn K mainGlobals "kind_of" = some (some (.ref f_kind_of)))
    (l_kind_of : K.lookup f_kind_of = some ⟨oc_kind_of, od_kind_of, .func (PySem.W.fnOf "kind_of" "kind_of" (defArgs s_kind_of) (defBody s_kind_of) (defScope s_kind_of) .none kV_kind_of dc_kind_of pm_kind_of an_kind_of cd_kind_of ct_kind_of), sl_kind_of⟩) (c_kind_of : PySem.W.codeIn K cd_kind_of "kind_of" = true) (k_kind_of : PySem.W.keepIn K (.ref f_kind_of) = true)
    (a_read_level : PySem.W.nsIn K mainGlobals "read_level" = some (some (.ref f_read_level)))
    (l_read_level : K.lookup f_read_level = some ⟨oc_read_level, od_read_level, .func (PySem.W.fnOf "read_level" "read_level" (defArgs s_read_level) (defBody s_read_level) (defScope s_read_level) .none kV_read_level dc_read_level pm_read_level an_read_level cd_read_level ct_read_level), sl_read_level⟩) (c_read_level : PySem.W.codeIn K cd_read_level "read_level" = true) (k_read_level : PySem.W.keepIn K (.ref f_read_level) = true)
    (a_read_piece : PySem.W.nsIn K mainGlobals "read_piece" = some (some (.ref f_read_piece)))
    (l_read_piece : K.lookup f_read_piece = some ⟨oc_read_piece, od_read_piece, .func (PySem.W.fnOf "read_piece" "read_piece" (defArgs s_read_piece) (defBody s_read_piece) (defScope s_read_piece) .none kV_read_piece dc_read_piece pm_read_piece an_read_piece cd_read_piece ct_read_piece), sl_read_piece⟩) (c_read_piece : PySem.W.codeIn K cd_read_piece "read_piece" = true) (k_read_piece : PySem.W.keepIn K (.ref f_read_piece) = true)
    (a_read_gate : PySem.W.nsIn K mainGlobals "read_gate" = some (some (.ref f_read_gate)))
    (l_read_gate : K.lookup f_read_gate = some ⟨oc_read_gate, od_read_gate, .func (PySem.W.fnOf "read_gate" "read_gate" (defArgs s_read_gate) (defBody s_read_gate) (defScope s_read_gate) .none kV_read_gate dc_read_gate pm_read_gate an_read_gate cd_read_gate ct_read_gate), sl_read_gate⟩) (c_read_gate : PySem.W.codeIn K cd_read_gate "read_gate" = true) (k_read_gate : PySem.W.keepIn K (.ref f_read_gate) = true)
    (a_is_name : PySem.W.nsIn K mainGlobals "is_name" = some (some (.ref f_is_name)))
    (l_is_name : K.lookup f_is_name = some ⟨oc_is_name, od_is_name, .func (PySem.W.fnOf "is_name" "is_name" (defArgs s_is_name) (defBody s_is_name) (defScope s_is_name) .none kV_is_name dc_is_name pm_is_name an_is_name cd_is_name ct_is_name), sl_is_name⟩) (c_is_name : PySem.W.codeIn K cd_is_name "is_name" = true) (k_is_name : PySem.W.keepIn K (.ref f_is_name) = true)
    (a_number_of : PySem.W.nsIn K mainGlobals "number_of" = some (some (.ref f_number_of)))
    (l_number_of : K.lookup f_number_of = some ⟨oc_number_of, od_number_of, .func (PySem.W.fnOf "number_of" "number_of" (defArgs s_number_of) (defBody s_number_of) (defScope s_number_of) .none kV_number_of dc_number_of pm_number_of an_number_of cd_number_of ct_number_of), sl_number_of⟩) (c_number_of : PySem.W.codeIn K cd_number_of "number_of" = true) (k_number_of : PySem.W.keepIn K (.ref f_number_of) = true)
    (a_law_cell_at : PySem.W.nsIn K mainGlobals "_law_cell_at" = some (some (.ref f_law_cell_at)))
    (l_law_cell_at : K.lookup f_law_cell_at = some ⟨oc_law_cell_at, od_law_cell_at, .func (PySem.W.fnOf "_law_cell_at" "_law_cell_at" (defArgs s_law_cell_at) (defBody s_law_cell_at) (defScope s_law_cell_at) .none kV_law_cell_at dc_law_cell_at pm_law_cell_at an_law_cell_at cd_law_cell_at ct_law_cell_at), sl_law_cell_at⟩) (c_law_cell_at : PySem.W.codeIn K cd_law_cell_at "_law_cell_at" = true) (k_law_cell_at : PySem.W.keepIn K (.ref f_law_cell_at) = true)
    (a_law_dice : PySem.W.nsIn K mainGlobals "_law_dice" = some (some (.ref f_law_dice)))
    (l_law_dice : K.lookup f_law_dice = some ⟨oc_law_dice, od_law_dice, .func (PySem.W.fnOf "_law_dice" "_law_dice" (defArgs s_law_dice) (defBody s_law_dice) (defScope s_law_dice) .none kV_law_dice dc_law_dice pm_law_dice an_law_dice cd_law_dice ct_law_dice), sl_law_dice⟩) (c_law_dice : PySem.W.codeIn K cd_law_dice "_law_dice" = true) (k_law_dice : PySem.W.keepIn K (.ref f_law_dice) = true)
    (a_law_roll : PySem.W.nsIn K mainGlobals "_law_roll" = some (some (.ref f_law_roll)))
    (l_law_roll : K.lookup f_law_roll = some ⟨oc_law_roll, od_law_roll, .func (PySem.W.fnOf "_law_roll" "_law_roll" (defArgs s_law_roll) (defBody s_law_roll) (defScope s_law_roll) .none kV_law_roll dc_law_roll pm_law_roll an_law_roll cd_law_roll ct_law_roll), sl_law_roll⟩) (c_law_roll : PySem.W.codeIn K cd_law_roll "_law_roll" = true) (k_law_roll : PySem.W.keepIn K (.ref f_law_roll) = true)
    (a_law_names : PySem.W.nsIn K mainGlobals "_law_names" = some (some (.ref f_law_names)))
    (l_law_names : K.lookup f_law_names = some ⟨oc_law_names, od_law_names, .func (PySem.W.fnOf "_law_names" "_law_names" (defArgs s_law_names) (defBody s_law_names) (defScope s_law_names) .none kV_law_names dc_law_names pm_law_names an_law_names cd_law_names ct_law_names), sl_law_names⟩) (c_law_names : PySem.W.codeIn K cd_law_names "_law_names" = true) (k_law_names : PySem.W.keepIn K (.ref f_law_names) = true)
    (a_law_tree : PySem.W.nsIn K mainGlobals "_law_tree" = some (some (.ref f_law_tree)))
    (l_law_tree : K.lookup f_law_tree = some ⟨oc_law_tree, od_law_tree, .func (PySem.W.fnOf "_law_tree" "_law_tree" (defArgs s_law_tree) (defBody s_law_tree) (defScope s_law_tree) .none kV_law_tree dc_law_tree pm_law_tree an_law_tree cd_law_tree ct_law_tree), sl_law_tree⟩) (c_law_tree : PySem.W.codeIn K cd_law_tree "_law_tree" = true) (k_law_tree : PySem.W.keepIn K (.ref f_law_tree) = true)
    (a_law_written : PySem.W.nsIn K mainGlobals "_law_written" = some (some (.ref f_law_written)))
    (l_law_written : K.lookup f_law_written = some ⟨oc_law_written, od_law_written, .func (PySem.W.fnOf "_law_written" "_law_written" (defArgs s_law_written) (defBody s_law_written) (defScope s_law_written) .none kV_law_written dc_law_written pm_law_written an_law_written cd_law_written ct_law_written), sl_law_written⟩) (c_law_written : PySem.W.codeIn K cd_law_written "_law_written" = true) (k_law_written : PySem.W.keepIn K (.ref f_law_written) = true)
    (a_law_is_name : PySem.W.nsIn K mainGlobals "_law_is_name" = some (some (.ref f_law_is_name)))
    (l_law_is_name : K.lookup f_law_is_name = some ⟨oc_law_is_name, od_law_is_name, .func (PySem.W.fnOf "_law_is_name" "_law_is_name" (defArgs s_law_is_name) (defBody s_law_is_name) (defScope s_law_is_name) .none kV_law_is_name dc_law_is_name pm_law_is_name an_law_is_name cd_law_is_name ct_law_is_name), sl_law_is_name⟩) (c_law_is_name : PySem.W.codeIn K cd_law_is_name "_law_is_name" = true) (k_law_is_name : PySem.W.keepIn K (.ref f_law_is_name) = true)
    (a_law_number : PySem.W.nsIn K mainGlobals "_law_number" = some (some (.ref f_law_number)))
    (l_law_number : K.lookup f_law_number = some ⟨oc_law_number, od_law_number, .func (PySem.W.fnOf "_law_number" "_law_number" (defArgs s_law_number) (defBody s_law_number) (defScope s_law_number) .none kV_law_number dc_law_number pm_law_number an_law_number cd_law_number ct_law_number), sl_law_number⟩) (c_law_number : PySem.W.codeIn K cd_law_number "_law_number" = true) (k_law_number : PySem.W.keepIn K (.ref f_law_number) = true)
    (a_law_single : PySem.W.nsIn K mainGlobals "_law_single" = some (some (.ref f_law_single)))
    (l_law_single : K.lookup f_law_single = some ⟨oc_law_single, od_law_single, .func (PySem.W.fnOf "_law_single" "_law_single" (defArgs s_law_single) (defBody s_law_single) (defScope s_law_single) .none kV_law_single dc_law_single pm_law_single an_law_single cd_law_single ct_law_single), sl_law_single⟩) (c_law_single : PySem.W.codeIn K cd_law_single "_law_single" = true) (k_law_single : PySem.W.keepIn K (.ref f_law_single) = true)
    (a_law_chain : PySem.W.nsIn K mainGlobals "_law_chain" = some (some (.ref f_law_chain)))
    (l_law_chain : K.lookup f_law_chain = some ⟨oc_law_chain, od_law_chain, .func (PySem.W.fnOf "_law_chain" "_law_chain" (defArgs s_law_chain) (defBody s_law_chain) (defScope s_law_chain) .none kV_law_chain dc_law_chain pm_law_chain an_law_chain cd_law_chain ct_law_chain), sl_law_chain⟩) (c_law_chain : PySem.W.codeIn K cd_law_chain "_law_chain" = true) (k_law_chain : PySem.W.keepIn K (.ref f_law_chain) = true)
    (a_law_refused : PySem.W.nsIn K mainGlobals "_law_refused" = some (some (.ref f_law_refused)))
    (l_law_refused : K.lookup f_law_refused = some ⟨oc_law_refused, od_law_refused, .func (PySem.W.fnOf "_law_refused" "_law_refused" (defArgs s_law_refused) (defBody s_law_refused) (defScope s_law_refused) .none kV_law_refused dc_law_refused pm_law_refused an_law_refused cd_law_refused ct_law_refused), sl_law_refused⟩) (c_law_refused : PySem.W.codeIn K cd_law_refused "_law_refused" = true) (k_law_refused : PySem.W.keepIn K (.ref f_law_refused) = true)
    (a_law_parted : PySem.W.nsIn K mainGlobals "_law_parted" = some (some (.ref f_law_parted)))
    (l_law_parted : K.lookup f_law_parted = some ⟨oc_law_parted, od_law_parted, .func (PySem.W.fnOf "_law_parted" "_law_parted" (defArgs s_law_parted) (defBody s_law_parted) (defScope s_law_parted) .none kV_law_parted dc_law_parted pm_law_parted an_law_parted cd_law_parted ct_law_parted), sl_law_parted⟩) (c_law_parted : PySem.W.codeIn K cd_law_parted "_law_parted" = true) (k_law_parted : PySem.W.keepIn K (.ref f_law_parted) = true)
    (a_law_bent : PySem.W.nsIn K mainGlobals "_law_bent" = some (some (.ref f_law_bent)))
    (l_law_bent : K.lookup f_law_bent = some ⟨oc_law_bent, od_law_bent, .func (PySem.W.fnOf "_law_bent" "_law_bent" (defArgs s_law_bent) (defBody s_law_bent) (defScope s_law_bent) .none kV_law_bent dc_law_bent pm_law_bent an_law_bent cd_law_bent ct_law_bent), sl_law_bent⟩) (c_law_bent : PySem.W.codeIn K cd_law_bent "_law_bent" = true) (k_law_bent : PySem.W.keepIn K (.ref f_law_bent) = true)
    (a_law : PySem.W.nsIn K mainGlobals "law" = some (some (.ref f_law)))
    (l_law : K.lookup f_law = some ⟨oc_law, od_law, .func (PySem.W.fnOf "law" "law" (defArgs s_law) (defBody s_law) (defScope s_law) .none kV_law dc_law pm_law an_law cd_law ct_law), sl_law⟩) (c_law : PySem.W.codeIn K cd_law "law" = true) (k_law : PySem.W.keepIn K (.ref f_law) = true)
    (aC : PySem.W.nsIn K mainGlobals "Words" = some (some (.ref C)))
    (pg : PySem.W.plainGet K C Str.empty = true)
    (hd : PySem.W.hasDictIn K C = true)
    (po : PySem.W.plainOver K C = true)
    (sa : PySem.W.findIn K (.ref C) "__setattr__" = some (some (.builtin "object.__setattr__")))
    (mk : PySem.W.makesIn K C = true)
    (kc : PySem.W.keepIn K (.ref C) = true)
    (nW : PySem.W.findIn K (.ref C) "words" = some none)
    (nA : PySem.W.findIn K (.ref C) "at" = some none)
    (aN : PySem.W.nsIn K mainGlobals "NoRecipe" = some (some (.ref N)))
    (xN : PySem.W.excIn K N [.type "ValueError", .type "Exception", .type "BaseException", .type "object"] "ValueError.__new__" = true)
    (kN : PySem.W.keepIn K (.ref N) = true)
    (bN : PySem.W.subIn K (.ref N) (.type "BaseException") = some true)
    (tN : PySem.W.typeIn K (.ref N) = some (.type "type"))
    (z_len : PySem.W.nsIn K mainGlobals "len" = some none)
    (z_range : PySem.W.nsIn K mainGlobals "range" = some none)
    (z_str : PySem.W.nsIn K mainGlobals "str" = some none)
    (z_all : PySem.W.nsIn K mainGlobals "all" = some none)
    (z_tuple : PySem.W.nsIn K mainGlobals "tuple" = some none)
    (z_int : PySem.W.nsIn K mainGlobals "int" = some none)
    (g1 : PySem.W.nsIn K mainGlobals "GREATEST" = some (some (.int 30 tk1)))
    (g2 : PySem.W.nsIn K mainGlobals "LETTERS" = some (some (.str "abcdefghijklmnopqrstuvwxyz" tk2)))
    (g3 : PySem.W.nsIn K mainGlobals "FIGURES" = some (some (.str "0123456789" tk3)))
    (g4 : PySem.W.nsIn K mainGlobals "OTHER_WORDS" = some (some (.str "+&|()[]" tk4)))
    (g5 : PySem.W.nsIn K mainGlobals "LONGEST_NAME" = some (some (.int 6 tk5)))
    (g6 : PySem.W.nsIn K mainGlobals "MOST_PIECES" = some (some (.int 8 tk6)))
    (g7 : PySem.W.nsIn K mainGlobals "MOST_WORDS" = some (some (.int 40 tk7)))
    (g8 : PySem.W.nsIn K mainGlobals "MOST_SIGNS" = some (some (.int 400 tk8)))
    (g9 : PySem.W.nsIn K mainGlobals "DEEPEST" = some (some (.int 2 tk9)))
    (gL : PySem.W.nsIn K mainGlobals "LEVELS" = some (some (.ref aL)))
    (lL : K.lookup aL = some ⟨.type "tuple", odL, .seq #[.str "most" tl1, .str "least" tl2, .str "sum" tl3] nL, slL⟩)
    (gS : PySem.W.nsIn K mainGlobals "SIGNS" = some (some (.ref aS)))
    (lS : K.lookup aS = some ⟨.type "dict", none, .dict esS nS, #[]⟩)
    (kS : PySem.W.KeysLit w.params esS.toList)
    (s1 : PySem.W.nsIn K aS "sum" = some (some (.str "+" tg1)))
    (s2 : PySem.W.nsIn K aS "least" = some (some (.str "&" tg2)))
    (s3 : PySem.W.nsIn K aS "most" = some (some (.str "|" tg3)))
    (z_isi : PySem.W.nsIn K mainGlobals "isinstance" = some none)
    (gB : PySem.W.nsIn K mainGlobals "BARE" = some (some (.ref aB)))
    (lB : K.lookup aB = some ⟨.type "dict", none, .dict esB nB, #[]⟩)
    (kB : PySem.W.KeysLit w.params esB.toList)
    (q1 : PySem.W.nsIn K aB "gate" = some (some (.ref bG)))
    (q2 : PySem.W.nsIn K aB "sum" = some (some (.ref bS)))
    (q3 : PySem.W.nsIn K aB "least" = some (some (.ref bL)))
    (q4 : PySem.W.nsIn K aB "most" = some (some (.ref bM)))
    (r1 : K.lookup bG = some ⟨.type "tuple", oG, .seq #[.str "number" u1, .str "name" u2, .str "gate" u3] nG, slG⟩)
    (r2 : K.lookup bS = some ⟨.type "tuple", oS, .seq #[.str "number" v1, .str "name" v2, .str "gate" v3] nSu, slS⟩)
    (r3 : K.lookup bL = some ⟨.type "tuple", oL, .seq #[.str "number" w1, .str "name" w2, .str "gate" w3, .str "sum" w4] nLe, slL2⟩)
    (r4 : K.lookup bM = some ⟨.type "tuple", oM, .seq #[.str "number" x1, .str "name" x2, .str "gate" x3, .str "sum" x4, .str "least" x5] nMo, slM⟩)
    (aX_NoName : PySem.W.nsIn K mainGlobals "NoName" = some (some (.ref NN)))
    (tX_NoName : PySem.W.typeIn K (.ref NN) = some (.type "type"))
    (is_NoName : PySem.W.isClsIn K NN = true)
    (sb_N_NN : PySem.W.subIn K (.ref N) (.ref NN) = some false)
    (ne_N_NN : (Value.ref N == Value.ref NN) = false)
    (aX_NoNumber : PySem.W.nsIn K mainGlobals "NoNumber" = some (some (.ref NB)))
    (tX_NoNumber : PySem.W.typeIn K (.ref NB) = some (.type "type"))
    (is_NoNumber : PySem.W.isClsIn K NB = true)
    (sb_N_NB : PySem.W.subIn K (.ref N) (.ref NB) = some false)
    (ne_N_NB : (Value.ref N == Value.ref NB) = false)
    (aX_Full : PySem.W.nsIn K mainGlobals "Full" = some (some (.ref NF)))
    (tX_Full : PySem.W.typeIn K (.ref NF) = some (.type "type"))
    (is_Full : PySem.W.isClsIn K NF = true)
    (sb_N_NF : PySem.W.subIn K (.ref N) (.ref NF) = some false)
    (ne_N_NF : (Value.ref N == Value.ref NF) = false)
    (aX_NoPoint : PySem.W.nsIn K mainGlobals "NoPoint" = some (some (.ref NP)))
    (tX_NoPoint : PySem.W.typeIn K (.ref NP) = some (.type "type"))
    (is_NoPoint : PySem.W.isClsIn K NP = true)
    (sb_N_NP : PySem.W.subIn K (.ref N) (.ref NP) = some false)
    (ne_N_NP : (Value.ref N == Value.ref NP) = false)
    (aX_NoRow : PySem.W.nsIn K mainGlobals "NoRow" = some (some (.ref NR)))
    (tX_NoRow : PySem.W.typeIn K (.ref NR) = some (.type "type"))
    (is_NoRow : PySem.W.isClsIn K NR = true)
    (sb_N_NR : PySem.W.subIn K (.ref N) (.ref NR) = some false)
    (ne_N_NR : (Value.ref N == Value.ref NR) = false)
    (aX_HallError : PySem.W.nsIn K mainGlobals "HallError" = some (some (.ref HE)))
    (tX_HallError : PySem.W.typeIn K (.ref HE) = some (.type "type"))
    (is_HallError : PySem.W.isClsIn K HE = true)
    (sb_N_HE : PySem.W.subIn K (.ref N) (.ref HE) = some true)
    (ne_N_HE : (Value.ref N == Value.ref HE) = false)
    (sb_N_VE : PySem.W.subIn K (.ref N) (.type "ValueError") = some true)
    (sb_N_N : PySem.W.subIn K (.ref N) (.ref N) = some true)
    (is_NoRecipe : PySem.W.isClsIn K N = true)
    (z_ValueError : PySem.W.nsIn K mainGlobals "ValueError" = some none)
    (cn_NoRecipe : PySem.W.specialIn K (.builtin "object.__class__") "__get__" = some (some (.builtin "getset_descriptor.__get__")))
    (ct_NoRecipe_ : PySem.W.takesIn K (.builtin "object.__class__") = some true)
    (cg_NoRecipe : PySem.W.findIn K (.ref N) "__getattribute__" = some (some (.builtin "BaseException.__getattribute__")))
    (ck_NoRecipe : PySem.W.findIn K (.ref N) "__getattr__" = some none)
    (cd_NoRecipe_ : PySem.W.hasDictIn K N = true)
    (ca_NoRecipe : PySem.W.findIn K (.ref N) "__class__" = some (some (.builtin "object.__class__")))
    (cm_NoRecipe : PySem.W.mroIn K N (.type "object") = some true)
    : ∃ fd : FuncData, (∀ (s : Shared) (v : Value), BindsTo s fd ⟨[v], []⟩ [("_law_script", v)]) ∧ ∀ base : Heap, K.In base → base.Ns mainGlobals mg → FnOk l.prog w K mg base CX0 34 fa fd ["_law_script"] (spLaw K) := by
  have e := hfa.symm.trans (PySem.W.mg_of X G a_law)
  cases e
  have F_number_piece := fun_mk (st := s_number_piece) l_number_piece c_number_piece k_number_piece
  have b_number_piece := F_number_piece.binds (ps := ["number"]) fun _ _ _ _ _ _ us hl => match us, hl with | [_], _ => rfl
  have F_name_piece := fun_mk (st := s_name_piece) l_name_piece c_name_piece k_name_piece
  have b_name_piece := F_name_piece.binds (ps := ["name"]) fun _ _ _ _ _ _ us hl => match us, hl with | [_], _ => rfl
  have F_gate_piece := fun_mk (st := s_gate_piece) l_gate_piece c_gate_piece k_gate_piece
  have b_gate_piece := F_gate_piece.binds (ps := ["name", "bound", "piece"]) fun _ _ _ _ _ _ us hl => match us, hl with | [_, _, _], _ => rfl
  have F_joined_piece := fun_mk (st := s_joined_piece) l_joined_piece c_joined_piece k_joined_piece
  have b_joined_piece := F_joined_piece.binds (ps := ["kind", "pieces"]) fun _ _ _ _ _ _ us hl => match us, hl with | [_, _], _ => rfl
  have F_shown := fun_mk (st := s_shown) l_shown c_shown k_shown
  have b_shown := F_shown.binds (ps := ["recipe"]) fun _ _ _ _ _ _ us hl => match us, hl with | [_], _ => rfl
  have F_shown_within := fun_mk (st := s_shown_within) l_shown_within c_shown_within k_shown_within
  have b_shown_within := F_shown_within.binds (ps := ["kind", "piece"]) fun _ _ _ _ _ _ us hl => match us, hl with | [_, _], _ => rfl
  have F_Words_init := fun_mk (st := s_Words_init) l_Words_init c_Words_init k_Words_init
  have b_Words_init := F_Words_init.binds (ps := ["self", "words"]) fun _ _ _ _ _ _ us hl => match us, hl with | [_, _], _ => rfl
  have F_Words_ahead := fun_mk (st := s_Words_ahead) l_Words_ahead c_Words_ahead k_Words_ahead
  have b_Words_ahead := F_Words_ahead.binds (ps := ["self"]) fun _ _ _ _ _ _ us hl => match us, hl with | [_], _ => rfl
  have F_Words_taken := fun_mk (st := s_Words_taken) l_Words_taken c_Words_taken k_Words_taken
  have b_Words_taken := F_Words_taken.binds (ps := ["self"]) fun _ _ _ _ _ _ us hl => match us, hl with | [_], _ => rfl
  have F_Words_expect := fun_mk (st := s_Words_expect) l_Words_expect c_Words_expect k_Words_expect
  have b_Words_expect := F_Words_expect.binds (ps := ["self", "word"]) fun _ _ _ _ _ _ us hl => match us, hl with | [_, _], _ => rfl
  have F_read := fun_mk (st := s_read) l_read c_read k_read
  have b_read := F_read.binds (ps := ["text"]) fun _ _ _ _ _ _ us hl => match us, hl with | [_], _ => rfl
  have F_words_of := fun_mk (st := s_words_of) l_words_of c_words_of k_words_of
  have b_words_of := F_words_of.binds (ps := ["text"]) fun _ _ _ _ _ _ us hl => match us, hl with | [_], _ => rfl
  have F_kind_of := fun_mk (st := s_kind_of) l_kind_of c_kind_of k_kind_of
  have b_kind_of := F_kind_of.binds (ps := ["sign"]) fun _ _ _ _ _ _ us hl => match us, hl with | [_], _ => rfl
  have F_read_level := fun_mk (st := s_read_level) l_read_level c_read_level k_read_level
  have b_read_level := F_read_level.binds (ps := ["reader", "level", "deep"]) fun _ _ _ _ _ _ us hl => match us, hl with | [_, _, _], _ => rfl
  have F_read_piece := fun_mk (st := s_read_piece) l_read_piece c_read_piece k_read_piece
  have b_read_piece := F_read_piece.binds (ps := ["reader", "deep"]) fun _ _ _ _ _ _ us hl => match us, hl with | [_, _], _ => rfl
  have F_read_gate := fun_mk (st := s_read_gate) l_read_gate c_read_gate k_read_gate
  have b_read_gate := F_read_gate.binds (ps := ["reader", "deep"]) fun _ _ _ _ _ _ us hl => match us, hl with | [_, _], _ => rfl
  have F_is_name := fun_mk (st := s_is_name) l_is_name c_is_name k_is_name
  have b_is_name := F_is_name.binds (ps := ["text"]) fun _ _ _ _ _ _ us hl => match us, hl with | [_], _ => rfl
  have F_number_of := fun_mk (st := s_number_of) l_number_of c_number_of k_number_of
  have b_number_of := F_number_of.binds (ps := ["word", "lowest"]) fun _ _ _ _ _ _ us hl => match us, hl with | [_, _], _ => rfl
  have F_law_cell_at := fun_mk (st := s_law_cell_at) l_law_cell_at c_law_cell_at k_law_cell_at
  have b_law_cell_at := F_law_cell_at.binds (ps := ["_law_script", "_law_k"]) fun _ _ _ _ _ _ us hl => match us, hl with | [_, _], _ => rfl
  have F_law_dice := fun_mk (st := s_law_dice) l_law_dice c_law_dice k_law_dice
  have b_law_dice := F_law_dice.binds (ps := ["_law_cell"]) fun _ _ _ _ _ _ us hl => match us, hl with | [_], _ => rfl
  have F_law_roll := fun_mk (st := s_law_roll) l_law_roll c_law_roll k_law_roll
  have b_law_roll := F_law_roll.binds (ps := ["_law_dice_here", "_law_most"]) fun _ _ _ _ _ _ us hl => match us, hl with | [_, _], _ => rfl
  have F_law_names := fun_mk (st := s_law_names) l_law_names c_law_names k_law_names
  have b_law_names := F_law_names.binds (ps := ["_law_cell", "_law_many"]) fun _ _ _ _ _ _ us hl => match us, hl with | [_, _], _ => rfl
  have F_law_tree := fun_mk (st := s_law_tree) l_law_tree c_law_tree k_law_tree
  have b_law_tree := F_law_tree.binds (ps := ["_law_dice_here", "_law_names_here", "_law_deep"]) fun _ _ _ _ _ _ us hl => match us, hl with | [_, _, _], _ => rfl
  have F_law_written := fun_mk (st := s_law_written) l_law_written c_law_written k_law_written
  have b_law_written := F_law_written.binds (ps := ["_law_tree_here", "_law_firm"]) fun _ _ _ _ _ _ us hl => match us, hl with | [_, _], _ => rfl
  have F_law_is_name := fun_mk (st := s_law_is_name) l_law_is_name c_law_is_name k_law_is_name
  have b_law_is_name := F_law_is_name.binds (ps := ["_law_word"]) fun _ _ _ _ _ _ us hl => match us, hl with | [_], _ => rfl
  have F_law_number := fun_mk (st := s_law_number) l_law_number c_law_number k_law_number
  have b_law_number := F_law_number.binds (ps := ["_law_word"]) fun _ _ _ _ _ _ us hl => match us, hl with | [_], _ => rfl
  have F_law_single := fun_mk (st := s_law_single) l_law_single c_law_single k_law_single
  have b_law_single := F_law_single.binds (ps := ["_law_words", "_law_at", "_law_deep"]) fun _ _ _ _ _ _ us hl => match us, hl with | [_, _, _], _ => rfl
  have F_law_chain := fun_mk (st := s_law_chain) l_law_chain c_law_chain k_law_chain
  have b_law_chain := F_law_chain.binds (ps := ["_law_words", "_law_at", "_law_deep", "_law_rank"]) fun _ _ _ _ _ _ us hl => match us, hl with | [_, _, _, _], _ => rfl
  have F_law_refused := fun_mk (st := s_law_refused) l_law_refused c_law_refused k_law_refused
  have b_law_refused := F_law_refused.binds (ps := ["_law_text"]) fun _ _ _ _ _ _ us hl => match us, hl with | [_], _ => rfl
  have F_law_parted := fun_mk (st := s_law_parted) l_law_parted c_law_parted k_law_parted
  have b_law_parted := F_law_parted.binds (ps := ["_law_text"]) fun _ _ _ _ _ _ us hl => match us, hl with | [_], _ => rfl
  have F_law_bent := fun_mk (st := s_law_bent) l_law_bent c_law_bent k_law_bent
  have b_law_bent := F_law_bent.binds (ps := ["_law_dice_here", "_law_text"]) fun _ _ _ _ _ _ us hl => match us, hl with | [_, _], _ => rfl
  have F_law := fun_mk (st := s_law) l_law c_law k_law
  have b_law := F_law.binds (ps := ["_law_script"]) fun _ _ _ _ _ _ us hl => match us, hl with | [_], _ => rfl
  have T : Txt K mg C N := ⟨⟨pg, hd, po, sa⟩, nW, nA, PySem.W.mg_of X G aC, xN, PySem.W.mg_of X G aN, kN, bN, tN, PySem.W.mg_none_of X G z_len, PySem.W.mg_none_of X G z_range, PySem.W.mg_none_of X G z_str, PySem.W.mg_none_of X G z_all, PySem.W.mg_none_of X G z_tuple,
    ⟨_, PySem.W.mg_of X G g1⟩, ⟨_, PySem.W.mg_of X G g2⟩, ⟨_, PySem.W.mg_of X G g3⟩, ⟨_, PySem.W.mg_of X G g4⟩, ⟨_, PySem.W.mg_of X G g5⟩, ⟨_, PySem.W.mg_of X G g6⟩, ⟨_, PySem.W.mg_of X G g7⟩, ⟨_, PySem.W.mg_of X G g8⟩, ⟨_, PySem.W.mg_of X G g9⟩⟩
  have TC : TxtC K mg w := ⟨⟨aL, PySem.W.mg_of X G gL, fun H => .inr ⟨_, _, _, lL, rfl, rfl, (by show 3 ≤ sizeLine; decide), .cons ⟨_, rfl⟩ (.cons ⟨_, rfl⟩ (.cons ⟨_, rfl⟩ .nil))⟩⟩,
    ⟨aS, PySem.W.mg_of X G gS, fun k => by
      cases k
      · exact ⟨esS, nS, _, lS, kS, s1, ⟨_, rfl⟩⟩
      · exact ⟨esS, nS, _, lS, kS, s2, ⟨_, rfl⟩⟩
      · exact ⟨esS, nS, _, lS, kS, s3, ⟨_, rfl⟩⟩⟩⟩
  have TL : TxtL K mg := ⟨PySem.W.mg_none_of X G z_len, PySem.W.mg_none_of X G z_int, PySem.W.mg_none_of X G z_range, PySem.W.mg_none_of X G z_str⟩
  refine ⟨PySem.W.fnOf "law" "law" (defArgs s_law) (defBody s_law) (defScope s_law) .none kV_law dc_law pm_law an_law cd_law ct_law, fun s v => .of_eq rfl, fun base _ _ => ?_⟩
  have GA : FnOk l.prog w K mg base CX0 1 f_Words_ahead _ ["self"] (spAhead C) := ok_ahead F_Words_ahead T
  have GT : FnOk l.prog w K mg base CX0 2 f_Words_taken _ ["self"] (spTaken C) := ok_taken F_Words_taken T F_Words_ahead b_Words_ahead ⟨a_Words_ahead, i_Words_ahead, k_Words_ahead⟩
  have GX : FnOk l.prog w K mg base (L2.CX l.prog w) 3 f_Words_expect _ ["self", "word"] (spExpect C N) := ok_expect F_Words_expect T GT b_Words_taken ⟨a_Words_taken, i_Words_taken, k_Words_taken⟩
  have LO : Low l.prog w K mg base C N := ⟨⟨_, _, GA, b_Words_ahead, ⟨a_Words_ahead, i_Words_ahead, k_Words_ahead⟩⟩, ⟨_, _, GT, b_Words_taken, ⟨a_Words_taken, i_Words_taken, k_Words_taken⟩⟩, ⟨_, _, GX, b_Words_expect, ⟨a_Words_expect, i_Words_expect, k_Words_expect⟩⟩,
    ⟨_, _, ok_name F_is_name T, b_is_name, k_is_name, PySem.W.mg_of X G a_is_name⟩, ⟨_, _, ok_number F_number_of T, b_number_of, k_number_of, PySem.W.mg_of X G a_number_of⟩,
    ⟨_, _, ok_numP F_number_piece, b_number_piece, k_number_piece, PySem.W.mg_of X G a_number_piece⟩, ⟨_, _, ok_nameP F_name_piece, b_name_piece, k_name_piece, PySem.W.mg_of X G a_name_piece⟩,
    ⟨_, _, ok_gateP F_gate_piece, b_gate_piece, k_gate_piece, PySem.W.mg_of X G a_gate_piece⟩, ⟨_, _, ok_joinP F_joined_piece T.tup, b_joined_piece, k_joined_piece, PySem.W.mg_of X G a_joined_piece⟩⟩
  have RE : Rec K mg f_read_level f_read_piece f_read_gate _ _ _ := ⟨F_read_level, F_read_piece, F_read_gate, b_read_level, b_read_piece, b_read_gate, PySem.W.mg_of X G a_read_level, PySem.W.mg_of X G a_read_piece, PySem.W.mg_of X G a_read_gate⟩
  have GK : FnOk l.prog w K mg base (L2.CX l.prog w) 1 f_kind_of _ ["sign"] (spKind N) := ok_kind F_kind_of T
  have GW : FnOk l.prog w K mg base (L2.CX l.prog w) 2 f_words_of _ ["text"] (spWords N) := ok_words F_words_of T GK b_kind_of k_kind_of (PySem.W.mg_of X G a_kind_of)
  have GI : FnOk l.prog w K mg base CX0 1 f_Words_init _ ["self", "words"] (spInit C) := ok_Winit F_Words_init T
  have GR : FnOk l.prog w K mg base (L2.CX l.prog w) 27 f_read _ ["text"] (spRead N) := ok_read F_read T TC LO RE ⟨mk, a_Words_init, i_Words_init, kc⟩ GI b_Words_init GW b_words_of k_words_of (PySem.W.mg_of X G a_words_of)
  have TB : TxtB K mg w := ⟨⟨aB, PySem.W.mg_of X G gB, fun o => by
    cases o with
    | none => exact ⟨bG, ⟨esB, nB, _, lB, kB, q1, rfl⟩, fun H => .inr ⟨_, _, _, r1, rfl, rfl, (by show 3 ≤ sizeLine; decide), .cons ⟨_, rfl⟩ (.cons ⟨_, rfl⟩ (.cons ⟨_, rfl⟩ .nil))⟩⟩
    | some k =>
      cases k
      · exact ⟨bS, ⟨esB, nB, _, lB, kB, q2, rfl⟩, fun H => .inr ⟨_, _, _, r2, rfl, rfl, (by show 3 ≤ sizeLine; decide), .cons ⟨_, rfl⟩ (.cons ⟨_, rfl⟩ (.cons ⟨_, rfl⟩ .nil))⟩⟩
      · exact ⟨bL, ⟨esB, nB, _, lB, kB, q3, rfl⟩, fun H => .inr ⟨_, _, _, r3, rfl, rfl, (by show 4 ≤ sizeLine; decide), .cons ⟨_, rfl⟩ (.cons ⟨_, rfl⟩ (.cons ⟨_, rfl⟩ (.cons ⟨_, rfl⟩ .nil)))⟩⟩
      · exact ⟨bM, ⟨esB, nB, _, lB, kB, q4, rfl⟩, fun H => .inr ⟨_, _, _, r4, rfl, rfl, (by show 5 ≤ sizeLine; decide), .cons ⟨_, rfl⟩ (.cons ⟨_, rfl⟩ (.cons ⟨_, rfl⟩ (.cons ⟨_, rfl⟩ (.cons ⟨_, rfl⟩ .nil))))⟩⟩⟩⟩
  have zlen := PySem.W.mg_none_of X G z_len
  have zr := PySem.W.mg_none_of X G z_range
  have U4 : Up04 K mg N HE NN NB NF NP NR := ⟨exm_sub bN is_NoRecipe tN sb_N_N, ⟨cg_NoRecipe, ck_NoRecipe, bN, cd_NoRecipe_, ca_NoRecipe, cn_NoRecipe, ct_NoRecipe_, cm_NoRecipe⟩, PySem.W.mg_of X G aN, PySem.W.mg_of X G aX_HallError, PySem.W.mg_of X G aX_NoName, PySem.W.mg_of X G aX_NoNumber, PySem.W.mg_of X G aX_Full, PySem.W.mg_of X G aX_NoPoint, PySem.W.mg_of X G aX_NoRow,
    PySem.W.mg_none_of X G z_ValueError, PySem.W.mg_none_of X G z_isi, kit_cls ne_N_HE is_HallError tX_HallError sb_N_HE, kit_typ (by decide +kernel) sb_N_VE, kit_cls ne_N_NN is_NoName tX_NoName sb_N_NN, kit_cls ne_N_NB is_NoNumber tX_NoNumber sb_N_NB, kit_cls ne_N_NF is_Full tX_Full sb_N_NF, kit_cls ne_N_NP is_NoPoint tX_NoPoint sb_N_NP, kit_cls ne_N_NR is_NoRow tX_NoRow sb_N_NR⟩
  have Sh := all_shown (P := l.prog) (base := base) F_shown F_shown_within T.str TC TB b_shown k_shown (PySem.W.mg_of X G a_shown) b_shown_within k_shown_within (PySem.W.mg_of X G a_shown_within)
  have Wr := all_written (P := l.prog) (w := w) (base := base) F_law_written TL b_law_written (PySem.W.mg_of X G a_law_written)
  have Rl : FnOk l.prog w K mg base CX0 1 f_law_roll _ ["_law_dice_here", "_law_most"] spRoll := ok_roll F_law_roll
  have mRl := PySem.W.mg_of X G a_law_roll
  have mTr := PySem.W.mg_of X G a_law_tree
  have Gt0 : FnOk l.prog w K mg base CX0 2 f_law_tree _ ["_law_dice_here", "_law_names_here", "_law_deep"] (spTree K 0) := ok_tree0 F_law_tree TL Rl b_law_roll k_law_roll mRl
  have Gt1 : FnOk l.prog w K mg base CX0 3 f_law_tree _ ["_law_dice_here", "_law_names_here", "_law_deep"] (spTree K 1) := ok_treeS (by decide) F_law_tree TL Rl b_law_roll k_law_roll mRl Gt0 b_law_tree mTr
  have Gt2 : FnOk l.prog w K mg base CX0 4 f_law_tree _ ["_law_dice_here", "_law_names_here", "_law_deep"] (spTree K 2) := ok_treeS (by decide) F_law_tree TL Rl b_law_roll k_law_roll mRl Gt1 b_law_tree mTr
  have TS : TxS l.prog w K mg base := ⟨zlen, ⟨_, _, ok_isName F_law_is_name zlen, b_law_is_name, k_law_is_name, PySem.W.mg_of X G a_law_is_name⟩, ⟨_, _, ok_numL F_law_number zr T.str, b_law_number, k_law_number, PySem.W.mg_of X G a_law_number⟩⟩
  have Ch := ok_lawread F_law_chain F_law_single TS b_law_chain (PySem.W.mg_of X G a_law_chain) b_law_single (PySem.W.mg_of X G a_law_single)
  have Rf := ok_refused F_law_refused U4 GR b_read k_read (PySem.W.mg_of X G a_read)
  have Gt3 : FnOk l.prog w K mg base CX0 5 f_law_tree _ ["_law_dice_here", "_law_names_here", "_law_deep"] (spTree K 3) := ok_treeS (by decide) F_law_tree TL Rl b_law_roll k_law_roll mRl Gt2 b_law_tree mTr
  have Bn := ok_bent (P := l.prog) (w := w) (base := base) F_law_bent zlen Rl b_law_roll k_law_roll mRl
  have Pt := ok_parted (P := l.prog) (w := w) (K := K) (mg := mg) (base := base) F_law_parted
  exact ok_law36 F_law zlen zr ⟨ok_cell F_law_cell_at TL, b_law_cell_at, k_law_cell_at, PySem.W.mg_of X G a_law_cell_at⟩ ⟨ok_dice F_law_dice TL, b_law_dice, k_law_dice, PySem.W.mg_of X G a_law_dice⟩ ⟨ok_names F_law_names TL, b_law_names, k_law_names, PySem.W.mg_of X G a_law_names⟩
    ⟨Rl, b_law_roll, k_law_roll, mRl⟩ ⟨tree03 Gt0 Gt1 Gt2 Gt3, b_law_tree, k_law_tree, mTr⟩ ⟨Bn, b_law_bent, k_law_bent, PySem.W.mg_of X G a_law_bent⟩ ⟨Pt, b_law_parted, k_law_parted, PySem.W.mg_of X G a_law_parted⟩ ⟨Ch, b_law_chain, k_law_chain, PySem.W.mg_of X G a_law_chain⟩ ⟨Rf, b_law_refused, k_law_refused, PySem.W.mg_of X G a_law_refused⟩ ⟨GR, b_read, k_read, PySem.W.mg_of X G a_read⟩
    ⟨Wr 16, b_law_written, k_law_written, PySem.W.mg_of X G a_law_written⟩ ⟨Sh 16, b_shown, k_shown, PySem.W.mg_of X G a_shown⟩
theorem walk {l : PySem.W.OpenLaw} {q : Program} {loose : List Str} {XP : (Str → Option Value) → Heap → Prop} {YP : World → Heap → Prop} {d : DefRec} {K : Params → PySem.W.Frag} (hn : l.most = some 63) (hdf : d.params.defaults = [])
    (hY : ∀ (w : World) (h : Heap), YP w h → (K w.params).In h)
    (F : ∀ (w : World) (mg : Str → Option Value) (fa : Addr) (h : Heap), (K w.params).In h → h.Ns mainGlobals mg → mg d.name = some (.ref fa) →
      ∃ fd : FuncData, (∀ (s : Shared) (u : Value), BindsTo s fd ⟨[u], []⟩ [("_law_script", u)]) ∧ ∀ base : Heap, (K w.params).In base → base.Ns mainGlobals mg → FnOk l.prog w (K w.params) mg base CX0 34 fa fd ["_law_script"] (spLaw (K w.params))) :
    PySem.W.WalkO q loose XP YP l.row.toRowW d [] (fun f vs => PySem.call f vs) :=
  L2.walk_of (n := 63) (k := 34) (x := "_law_script") (CX := fun _ => CX0) (sp := fun w => spLaw (K w.params)) hn (by decide) hdf ⟨rfl, by decide, by decide⟩ hY F (fun _ _ a ns hl _ hS => ⟨a, ns, rfl, hS, hl, fun _ => rfl⟩) fun _ _ _ _ _ z => z
end Aw
open PySem PySem.W PyProof.Rows
set_option maxRecDepth 100000 in
set_option maxHeartbeats 0 in
theorem PySem.Challenge.cw_anewhall_k36_recipes_spoilt_anywhere_holds : PySem.Challenge.rw_anewhall_k36_recipes_spoilt_anywhere.Holds := by
  w_on; o_law; k_head; (case hw => w_witness2)
  k_fill
  refine Aw.walk (l := PySem.Challenge.rw_anewhall_k36_recipes_spoilt_anywhere) rfl rfl (fun w h Y => PySem.W.kIn_of Y) ?F
  case F =>
    intro w mg fa h KX G hmg
    refine' Aw.all_mk KX G hmg ?a_number_piece ?l_number_piece ?c_number_piece ?k_number_piece ?a_name_piece ?l_name_piece ?c_name_piece ?k_name_piece ?a_gate_piece ?l_gate_piece ?c_gate_piece ?k_gate_piece ?a_joined_piece ?l_joined_piece ?c_joined_piece ?k_joined_piece ?a_shown ?l_shown ?c_shown ?k_shown ?a_shown_within ?l_shown_within ?c_shown_within ?k_shown_within ?a_Words_init ?i_Words_init ?l_Words_init ?c_Words_init ?k_Words_init ?a_Words_ahead ?i_Words_ahead ?l_Words_ahead ?c_Words_ahead ?k_Words_ahead ?a_Words_taken ?i_Words_taken ?l_Words_taken ?c_Words_taken ?k_Words_taken ?a_Words_expect ?i_Words_expect ?l_Words_expect ?c_Words_expect ?k_Words_expect ?a_read ?l_read ?c_read ?k_read ?a_words_of ?l_words_of ?c_words_of ?k_words_of ?a_kind_of ?l_kind_of ?c_kind_of ?k_kind_of ?a_read_level ?l_read_level ?c_read_level ?k_read_level ?a_read_piece ?l_read_piece ?c_read_piece ?k_read_piece ?a_read_gate ?l_read_gate ?c_read_gate ?k_read_gate ?a_is_name ?l_is_name ?c_is_name ?k_is_name ?a_number_of ?l_number_of ?c_number_of ?k_number_of ?a_law_cell_at ?l_law_cell_at ?c_law_cell_at ?k_law_cell_at ?a_law_dice ?l_law_dice ?c_law_dice ?k_law_dice ?a_law_roll ?l_law_roll ?c_law_roll ?k_law_roll ?a_law_names ?l_law_names ?c_law_names ?k_law_names ?a_law_tree ?l_law_tree ?c_law_tree ?k_law_tree ?a_law_written ?l_law_written ?c_law_written ?k_law_written ?a_law_is_name ?l_law_is_name ?c_law_is_name ?k_law_is_name ?a_law_number ?l_law_number ?c_law_number ?k_law_number ?a_law_single ?l_law_single ?c_law_single ?k_law_single ?a_law_chain ?l_law_chain ?c_law_chain ?k_law_chain ?a_law_refused ?l_law_refused ?c_law_refused ?k_law_refused ?a_law_parted ?l_law_parted ?c_law_parted ?k_law_parted ?a_law_bent ?l_law_bent ?c_law_bent ?k_law_bent ?a_law ?l_law ?c_law ?k_law ?aC ?pg ?hd ?po ?sa ?mk ?kc ?nW ?nA ?aN ?xN ?kN ?bN ?tN ?z_len ?z_range ?z_str ?z_all ?z_tuple ?z_int ?g1 ?g2 ?g3 ?g4 ?g5 ?g6 ?g7 ?g8 ?g9 ?gL ?lL ?gS ?lS ?kS ?s1 ?s2 ?s3 ?z_isi ?gB ?lB ?kB ?q1 ?q2 ?q3 ?q4 ?r1 ?r2 ?r3 ?r4 ?aX_NoName ?tX_NoName ?is_NoName ?sb_N_NN ?ne_N_NN ?aX_NoNumber ?tX_NoNumber ?is_NoNumber ?sb_N_NB ?ne_N_NB ?aX_Full ?tX_Full ?is_Full ?sb_N_NF ?ne_N_NF ?aX_NoPoint ?tX_NoPoint ?is_NoPoint ?sb_N_NP ?ne_N_NP ?aX_NoRow ?tX_NoRow ?is_NoRow ?sb_N_NR ?ne_N_NR ?aX_HallError ?tX_HallError ?is_HallError ?sb_N_HE ?ne_N_HE ?sb_N_VE ?sb_N_N ?is_NoRecipe ?z_ValueError ?cn_NoRecipe ?ct_NoRecipe_ ?cg_NoRecipe ?ck_NoRecipe ?cd_NoRecipe_ ?ca_NoRecipe ?cm_NoRecipe
    (case aC => k_is)
    (case pg => k_is)
    (case hd => k_is)
    (case po => k_is)
    (case sa => k_is)
    (case mk => k_is)
    (case kc => k_is)
    (case nW => k_is)
    (case nA => k_is)
    (case aN => k_is)
    (case xN => k_exc)
    (case kN => k_is)
    (case bN => k_is)
    (case tN => k_is)
    (case z_len => k_is)
    (case z_range => k_is)
    (case z_str => k_is)
    (case z_all => k_is)
    (case z_tuple => k_is)
    (case z_int => k_is)
    (case g1 => k_is)
    (case g2 => k_is)
    (case g3 => k_is)
    (case g4 => k_is)
    (case g5 => k_is)
    (case g6 => k_is)
    (case g7 => k_is)
    (case g8 => k_is)
    (case g9 => k_is)
    (case gL => k_is)
    (case lL => k_is)
    (case gS => k_is)
    (case lS => k_is)
    (case kS => k_keys)
    (case s1 => k_is)
    (case s2 => k_is)
    (case s3 => k_is)
    (case z_isi => k_is)
    (case gB => k_is)
    (case lB => k_is)
    (case kB => k_keys)
    (case q1 => k_is)
    (case q2 => k_is)
    (case q3 => k_is)
    (case q4 => k_is)
    (case r1 => k_is)
    (case r2 => k_is)
    (case r3 => k_is)
    (case r4 => k_is)
    (case aX_NoName => k_is)
    (case tX_NoName => k_is)
    (case is_NoName => k_is)
    (case sb_N_NN => k_is)
    (case ne_N_NN => rfl)
    (case aX_NoNumber => k_is)
    (case tX_NoNumber => k_is)
    (case is_NoNumber => k_is)
    (case sb_N_NB => k_is)
    (case ne_N_NB => rfl)
    (case aX_Full => k_is)
    (case tX_Full => k_is)
    (case is_Full => k_is)
    (case sb_N_NF => k_is)
    (case ne_N_NF => rfl)
    (case aX_NoPoint => k_is)
    (case tX_NoPoint => k_is)
    (case is_NoPoint => k_is)
    (case sb_N_NP => k_is)
    (case ne_N_NP => rfl)
    (case aX_NoRow => k_is)
    (case tX_NoRow => k_is)
    (case is_NoRow => k_is)
    (case sb_N_NR => k_is)
    (case ne_N_NR => rfl)
    (case aX_HallError => k_is)
    (case tX_HallError => k_is)
    (case is_HallError => k_is)
    (case sb_N_HE => k_is)
    (case ne_N_HE => rfl)
    (case sb_N_VE => k_is)
    (case sb_N_N => k_is)
    (case is_NoRecipe => k_is)
    (case z_ValueError => k_is)
    (case cn_NoRecipe => k_is)
    (case ct_NoRecipe_ => k_is)
    (case cg_NoRecipe => k_is)
    (case ck_NoRecipe => k_is)
    (case cd_NoRecipe_ => k_is)
    (case ca_NoRecipe => k_is)
    (case cm_NoRecipe => k_is)
    (case a_number_piece => k_is)
    (case l_number_piece => k_is)
    (case c_number_piece => k_is)
    (case k_number_piece => k_is)
    (case a_name_piece => k_is)
    (case l_name_piece => k_is)
    (case c_name_piece => k_is)
    (case k_name_piece => k_is)
    (case a_gate_piece => k_is)
    (case l_gate_piece => k_is)
    (case c_gate_piece => k_is)
    (case k_gate_piece => k_is)
    (case a_joined_piece => k_is)
    (case l_joined_piece => k_is)
    (case c_joined_piece => k_is)
    (case k_joined_piece => k_is)
    (case a_shown => k_is)
    (case l_shown => k_is)
    (case c_shown => k_is)
    (case k_shown => k_is)
    (case a_shown_within => k_is)
    (case l_shown_within => k_is)
    (case c_shown_within => k_is)
    (case k_shown_within => k_is)
    (case a_Words_init => k_is)
    (case i_Words_init => k_is)
    (case l_Words_init => k_is)
    (case c_Words_init => k_is)
    (case k_Words_init => k_is)
    (case a_Words_ahead => k_is)
    (case i_Words_ahead => k_is)
    (case l_Words_ahead => k_is)
    (case c_Words_ahead => k_is)
    (case k_Words_ahead => k_is)
    (case a_Words_taken => k_is)
    (case i_Words_taken => k_is)
    (case l_Words_taken => k_is)
    (case c_Words_taken => k_is)
    (case k_Words_taken => k_is)
    (case a_Words_expect => k_is)
    (case i_Words_expect => k_is)
    (case l_Words_expect => k_is)
    (case c_Words_expect => k_is)
    (case k_Words_expect => k_is)
    (case a_read => k_is)
    (case l_read => k_is)
    (case c_read => k_is)
    (case k_read => k_is)
    (case a_words_of => k_is)
    (case l_words_of => k_is)
    (case c_words_of => k_is)
    (case k_words_of => k_is)
    (case a_kind_of => k_is)
    (case l_kind_of => k_is)
    (case c_kind_of => k_is)
    (case k_kind_of => k_is)
    (case a_read_level => k_is)
    (case l_read_level => k_is)
    (case c_read_level => k_is)
    (case k_read_level => k_is)
    (case a_read_piece => k_is)
    (case l_read_piece => k_is)
    (case c_read_piece => k_is)
    (case k_read_piece => k_is)
    (case a_read_gate => k_is)
    (case l_read_gate => k_is)
    (case c_read_gate => k_is)
    (case k_read_gate => k_is)
    (case a_is_name => k_is)
    (case l_is_name => k_is)
    (case c_is_name => k_is)
    (case k_is_name => k_is)
    (case a_number_of => k_is)
    (case l_number_of => k_is)
    (case c_number_of => k_is)
    (case k_number_of => k_is)
    (case a_law_cell_at => k_is)
    (case l_law_cell_at => k_is)
    (case c_law_cell_at => k_is)
    (case k_law_cell_at => k_is)
    (case a_law_dice => k_is)
    (case l_law_dice => k_is)
    (case c_law_dice => k_is)
    (case k_law_dice => k_is)
    (case a_law_roll => k_is)
    (case l_law_roll => k_is)
    (case c_law_roll => k_is)
    (case k_law_roll => k_is)
    (case a_law_names => k_is)
    (case l_law_names => k_is)
    (case c_law_names => k_is)
    (case k_law_names => k_is)
    (case a_law_tree => k_is)
    (case l_law_tree => k_is)
    (case c_law_tree => k_is)
    (case k_law_tree => k_is)
    (case a_law_written => k_is)
    (case l_law_written => k_is)
    (case c_law_written => k_is)
    (case k_law_written => k_is)
    (case a_law_is_name => k_is)
    (case l_law_is_name => k_is)
    (case c_law_is_name => k_is)
    (case k_law_is_name => k_is)
    (case a_law_number => k_is)
    (case l_law_number => k_is)
    (case c_law_number => k_is)
    (case k_law_number => k_is)
    (case a_law_single => k_is)
    (case l_law_single => k_is)
    (case c_law_single => k_is)
    (case k_law_single => k_is)
    (case a_law_chain => k_is)
    (case l_law_chain => k_is)
    (case c_law_chain => k_is)
    (case k_law_chain => k_is)
    (case a_law_refused => k_is)
    (case l_law_refused => k_is)
    (case c_law_refused => k_is)
    (case k_law_refused => k_is)
    (case a_law_parted => k_is)
    (case l_law_parted => k_is)
    (case c_law_parted => k_is)
    (case k_law_parted => k_is)
    (case a_law_bent => k_is)
    (case l_law_bent => k_is)
    (case c_law_bent => k_is)
    (case k_law_bent => k_is)
    (case a_law => k_is)
    (case l_law => k_is)
    (case c_law => k_is)
    (case k_law => k_is)

