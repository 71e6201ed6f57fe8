import PyProof.Rows.All
import Wide.All
import OpenK.AllK
import Wide.FinOn
import HandS.ForMost
import HandS.Exc
import HandS.TryOnly
import HandS.ExcOwn
import HandS.WordsExc
import HandS.Wide
import HandS.FStr
import HandS.RaiseMore
import HandS.WrittenGet
import HandS.Walk
import HandS.Steps
import HandS.Style
import HandS.Flow
import HandS.Conv
import HandS.DictComp
import HandS.IsInst
import HandS.Nested
import HandS.Dict
import HandS.Comp
import HandS.TryMany
import HandS.ExcIs
import HandS.Codes
import HandS.Iter
import HandS.More
import HandS.EndTab
import KE.KNestM
import PySem.Challenge.RW_anewhall_k09_least_fit
set_option Elab.async false
set_option linter.all false
set_option maxRecDepth 100000
namespace Aw
open PySem L2
/-! ### the mirror: trees, words, the parser, the lexer -/
inductive Kd where
  | sum | least | most
  deriving DecidableEq
def Kd.nm : Kd → Str
  | .sum => "sum"
  | .least => "least"
  | .most => "most"
def Kd.sg : Kd → Str
  | .sum => "+"
  | .least => "&"
  | .most => "|"
inductive T where
  | num (n : Int)
  | name (s : Str)
  | gate (s : Str) (b : Int) (t : T)
  | join (k : Kd) (ts : List T)
/-- a whole number's text -/
def tx (i : Int) : Str := toString i
def wd (ws : List Str) (i : Nat) : Str := ws.getD i Str.empty
def LET : List Nat := (("abcdefghijklmnopqrstuvwxyz" : Str)).cps.toList
def FIG : List Nat := (("0123456789" : Str)).cps.toList
def OTH : List Nat := (("+&|()[]" : Str)).cps.toList
def nameM (s : Str) : Bool := decide (1 ≤ s.length ∧ s.length ≤ 6) && s.cps.toList.all fun c => decide (c ∈ LET)
def numM (lo : Int) (w : Str) : Option Int := ((List.range (31 - lo).toNat).find? fun i => decide (w = tx (lo + (i : Nat)))).map fun i => lo + (i : Nat)
section
variable (ws : List Str)
def chainM (f : Nat → Option (T × Nat)) (sg : Str) : Nat → List T → Nat → Option (List T × Nat)
  | 0, _, _ => none
  | n + 1, ts, j => if wd ws j = sg then
      match f (j + 1) with
      | none => none
      | some (t, j') => chainM f sg n (ts ++ [t]) j'
    else some (ts, j)
/-- what the chain of pieces comes to -/
def joinM (k : Kd) (ts : List T) : Option T := if 8 < ts.length then none else
  match ts with
  | [t] => some t
  | _ => some (.join k ts)
def levelM (f : Nat → Option (T × Nat)) : List Kd → Nat → Option (T × Nat)
  | [], i => f i
  | k :: ks, i =>
    match levelM f ks i with
    | none => none
    | some (t, j) =>
      match chainM ws (levelM f ks) k.sg (ws.length + 1) [t] j with
      | none => none
      | some (ts, j') => (joinM k ts).map fun t => (t, j')
def kinds : List Kd := [.most, .least, .sum]
def gateM (f : Nat → Option (T × Nat)) (i : Nat) : Option (T × Nat) :=
  if nameM (wd ws i) = true then
    match numM 1 (wd ws (i + 1)) with
    | none => none
    | some b => if wd ws (i + 2) = "]" then (f (i + 3)).map fun r => (.gate (wd ws i) b r.1, r.2) else none
  else none
def pieceM : Nat → Nat → Option (T × Nat)
  | 0, _ => none
  | d + 1, i =>
    if wd ws i = "(" then
      match levelM ws (pieceM d) kinds (i + 1) with
      | none => none
      | some (t, j) => if wd ws j = ")" then some (t, j + 1) else none
    else if wd ws i = "[" then gateM ws (pieceM d) (i + 1)
    else if nameM (wd ws i) = true then some (.name (wd ws i), i + 1)
    else (numM 0 (wd ws i)).map fun n => (.num n, i + 1)
end
inductive Kn where
  | letter | figure | other | blank
  deriving DecidableEq
def Kn.nm : Kn → Str
  | .letter => "letter"
  | .figure => "figure"
  | .other => "other"
  | .blank => "blank"
def sg1 (c : Nat) : Str := ⟨#[c]⟩
def kindM (c : Nat) : Option Kn :=
  if c ∈ LET then some .letter else if c ∈ FIG then some .figure else if c ∈ OTH then some .other else if sg1 c = " " then some .blank else none
def addLast (ws : List Str) (c : Nat) : List Str := ws.set (ws.length - 1) (wd ws (ws.length - 1) ++ sg1 c)
def lexStep (st : List Str × Kn) (c : Nat) (k : Kn) : List Str :=
  if k = st.2 ∧ (k = .letter ∨ k = .figure) then addLast st.1 c else if k ≠ .blank then st.1 ++ [sg1 c] else st.1
def lexGo : List Nat → List Str → Kn → Option (List Str)
  | [], ws, _ => some ws
  | c :: r, ws, b =>
    match kindM c with
    | none => none
    | some k => lexGo r (lexStep (ws, b) c k) k
def lexM (z : Str) : Option (List Str) := lexGo z.cps.toList [] .blank
def readM (z : Str) : Option T :=
  if 400 < z.length then none else
  match lexM z with
  | none => none
  | some ws => if 40 < ws.length then none else
    match levelM ws (pieceM ws 3) kinds 0 with
    | none => none
    | some (t, j) => if wd ws j = Str.empty then some t else none
/-! ### the heap -/
/-- all but what stands at p is as it was -/
def But (p : Addr) (H H' : Hp) : Prop := ∀ b o, H b = some o → b ≠ p → H' b = some o
theorem But.refl (p : Addr) (H : Hp) : But p H H := fun _ _ h _ => h
theorem But.trans {p : Addr} {H H1 H2 : Hp} (a : But p H H1) (b : But p H1 H2) : But p H H2 := fun c o h hc => b c o (a c o h hc) hc
theorem But.of_same {p : Addr} {H H1 : Hp} (a : Same H H1) : But p H H1 := fun c o h _ => a c o h
theorem same_new {H : Hp} {p : Addr} (h : H p = none) (o : HO) : Same H (upd H p o) := fun b u q => by rw [upd_ne (ne_of_none q h)]; exact q
theorem same_upd {H H1 : Hp} {D : Addr} (s : Same H H1) (hD : H D = none) (o : HO) : Same H (upd H1 D o) := fun b u q => by rw [upd_ne (ne_of_none q hD)]; exact s b u q
theorem take_more {α : Type} : ∀ {l : List α} {i : Nat} {x : α}, l[i]? = some x → l.take (i + 1) = l.take i ++ [x]
  | [], i, x, h => by simp at h
  | a :: l, 0, x, h => by
    have e : a = x := Option.some.inj h
    subst e
    rfl
  | a :: l, i + 1, x, h => by
    have ih := take_more (l := l) (i := i) (x := x) h
    show a :: l.take (i + 1) = a :: l.take i ++ [x]
    rw [ih]
    rfl
theorem But.upd {p : Addr} {H : Hp} (o : HO) : But p H (upd H p o) := fun b u q hb => by rw [upd_ne hb]; exact q
mutual
inductive TA (H : Hp) : V → T → Prop
  | num {a : Addr} {n : Int} : H a = some (.tup [.str "number", .int n]) → TA H (.ref a) (.num n)
  | name {a : Addr} {s : Str} : H a = some (.tup [.str "name", .str s]) → TA H (.ref a) (.name s)
  | gate {a : Addr} {s : Str} {b : Int} {v : V} {t : T} : H a = some (.tup [.str "gate", .str s, .int b, v]) → TA H v t → TA H (.ref a) (.gate s b t)
  | join {a p : Addr} {k : Kd} {vs : List V} {ts : List T} : H a = some (.tup [.str k.nm, .ref p]) → H p = some (.tup vs) → TAs H vs ts → TA H (.ref a) (.join k ts)
inductive TAs (H : Hp) : List V → List T → Prop
  | nil : TAs H [] []
  | cons {v : V} {t : T} {vs : List V} {ts : List T} : TA H v t → TAs H vs ts → TAs H (v :: vs) (t :: ts)
end
/-- every tuple stays -/
def Tups (H H' : Hp) : Prop := ∀ b xs, H b = some (.tup xs) → H' b = some (.tup xs)
theorem Tups.of_same {H H' : Hp} (h : Same H H') : Tups H H' := fun b _ q => h b _ q
theorem Tups.of_but {H H' : Hp} {p : Addr} (h : But p H H') (hp : ∀ xs, H p ≠ some (.tup xs)) : Tups H H' := fun b xs q => h b _ q fun e => hp xs (e ▸ q)
mutual
theorem TA.mono {H H' : Hp} (h : Tups H H') : ∀ {v : V} {t : T}, TA H v t → TA H' v t
  | _, _, .num e => .num (h _ _ e)
  | _, _, .name e => .name (h _ _ e)
  | _, _, .gate e q => .gate (h _ _ e) (TA.mono h q)
  | _, _, .join e e2 q => .join (h _ _ e) (h _ _ e2) (TAs.mono h q)
theorem TAs.mono {H H' : Hp} (h : Tups H H') : ∀ {v : List V} {t : List T}, TAs H v t → TAs H' v t
  | _, _, .nil => .nil
  | _, _, .cons a b => .cons (TA.mono h a) (TAs.mono h b)
end
theorem TAs.length {H : Hp} {vs : List V} {ts : List T} (h : TAs H vs ts) : vs.length = ts.length := by
  induction vs generalizing ts with
  | nil => cases h; rfl
  | cons v r ih => cases h with | cons a b => rw [List.length_cons, List.length_cons, ih b]
theorem TAs.snoc {H : Hp} {v : V} {t : T} (h1 : TA H v t) : ∀ {vs : List V} {ts : List T}, TAs H vs ts → TAs H (vs ++ [v]) (ts ++ [t])
  | _, _, .nil => .cons h1 .nil
  | _, _, .cons a b => .cons a (TAs.snoc h1 b)
theorem TAs.get {H : Hp} : ∀ {vs : List V} {ts : List T} {i : Nat} {v : V}, TAs H vs ts → vs[i]? = some v → ∃ t, ts[i]? = some t ∧ TA H v t
  | _, _, i, v, .nil, h => by simp at h
  | _, _, 0, v, .cons a b, h => ⟨_, rfl, by have e := Option.some.inj h; exact e ▸ a⟩
  | _, _, i + 1, v, .cons a b, h => by
    obtain ⟨t, h1, h2⟩ := TAs.get b (i := i) (v := v) (by simpa using h)
    exact ⟨t, by simpa using h1, h2⟩
/-! ### the reader of words -/
def rflds (l : Addr) (i : Nat) : List (Str × V) := putF "at" (.int i) (putF "words" (.ref l) [])
theorem wa : ¬ (("words" : Str) = "at") := by decide +kernel
theorem rflds_words (l : Addr) (i : Nat) : (rflds l i).lookup ("words" : Str) = some (.ref l) := by
  unfold rflds
  rw [lookup_putF, if_neg wa, lookup_putF, if_pos rfl]
theorem rflds_at (l : Addr) (i : Nat) : (rflds l i).lookup ("at" : Str) = some (.int i) := by
  unfold rflds
  rw [lookup_putF, if_pos rfl]
theorem rflds_no (l : Addr) (i : Nat) {m : Str} (h1 : ¬ m = "at") (h2 : ¬ m = "words") : (rflds l i).lookup m = none := by
  unfold rflds
  rw [lookup_putF, if_neg h1, lookup_putF, if_neg h2]
  all_goals rfl
theorem rflds_eq (l : Addr) (i : Nat) : rflds l i = ([("words", V.ref l), ("at", V.int i)] : List (Str × V)) := by
  show (if ("words" : Str) = "at" then [(("words" : Str), V.int i)] else (("words" : Str), V.ref l) :: putF "at" (V.int i) []) = ([("words", V.ref l), ("at", V.int i)] : List (Str × V))
  rw [if_neg wa]
  all_goals rfl
theorem rflds_put (l : Addr) (i : Nat) {z : Int} (hz : z = ((i + 1 : Nat) : Int)) : putF "at" (.int z) (rflds l i) = rflds l (i + 1) := by
  subst hz
  rw [rflds_eq, rflds_eq]
  show (if ("words" : Str) = "at" then _ else (("words" : Str), V.ref l) :: (if ("at" : Str) = "at" then [(("at" : Str), V.int ((i + 1 : Nat) : Int))] else _)) = ([("words", V.ref l), ("at", V.int ((i + 1 : Nat) : Int))] : List (Str × V))
  rw [if_neg wa, if_pos rfl]
structure RdAt (C p l : Addr) (ws : List Str) (i : Nat) (H : Hp) : Prop where
  ob : ∃ dx, H p = some (.ins C dx (rflds l i))
  ls : H l = some (.lst (ws.map V.str))
  ln : ws.length ≤ 1000
theorem RdAt.mono {C p l : Addr} {ws : List Str} {i : Nat} {H H' : Hp} (h : RdAt C p l ws i H) (s : Same H H') : RdAt C p l ws i H' := by
  obtain ⟨dx, e⟩ := h.ob
  exact ⟨⟨dx, s _ _ e⟩, s _ _ h.ls, h.ln⟩
theorem RdAt.tups {C p l : Addr} {ws : List Str} {i : Nat} {H H' : Hp} (h : RdAt C p l ws i H) (s : But p H H') : Tups H H' := by
  obtain ⟨dx, e⟩ := h.ob
  exact Tups.of_but s fun xs q => by rw [e] at q; cases q
theorem RdAt.keep {C p l : Addr} {ws : List Str} {i : Nat} {H H' : Hp} (h : RdAt C p l ws i H) (s : But p H H') {a : Addr} {xs : List V} (e : H a = some (.lst xs)) : H' a = some (.lst xs) := by
  obtain ⟨dx, e1⟩ := h.ob
  exact s _ _ e (ne_of e e1 (by intro z; cases z))
theorem RdAt.ne_new {C p l : Addr} {ws : List Str} {i : Nat} {H : Hp} (h : RdAt C p l ws i H) {a : Addr} (e : H a = none) : p ≠ a := by
  obtain ⟨dx, e1⟩ := h.ob
  exact ne_of_none e1 e
theorem wd_get {ws : List Str} {i : Nat} (h : i < ws.length) : ws[i]? = some (wd ws i) := by
  unfold wd
  rw [List.getD_eq_getElem?_getD, List.getElem?_eq_getElem h]
  rfl
theorem wd_end {ws : List Str} {i : Nat} (h : ¬ i < ws.length) : wd ws i = Str.empty := by
  unfold wd
  rw [List.getD_eq_getElem?_getD, List.getElem?_eq_none (by omega)]
  rfl
theorem wd_lt {ws : List Str} {i : Nat} {s : Str} (h : wd ws i = s) (hs : ¬ Str.empty = s) : i < ws.length := by
  rcases Nat.lt_or_ge i ws.length with q | q
  · exact q
  · exact absurd ((wd_end (by omega)).symm.trans h) hs
/-! ### the promises of the reading -/
def spInit (C : Addr) : Sp := fun vs H Q _ => ∃ (p dx l : Addr), vs = [.ref p, .ref l] ∧ H p = some (.ins C dx []) ∧ ∀ (H' : Hp), H' p = some (.ins C dx (rflds l 0)) → But p H H' → Q .non H'
def spAhead (C : Addr) : Sp := fun vs H Q _ => ∃ p l ws i, vs = [.ref p] ∧ RdAt C p l ws i H ∧ Q (.str (wd ws i)) H
def spTaken (C : Addr) : Sp := fun vs H Q _ => ∃ p l ws i, vs = [.ref p] ∧ RdAt C p l ws i H ∧ ∀ H', But p H H' → RdAt C p l ws (i + 1) H' → Q (.str (wd ws i)) H'
def spExpect (C N : Addr) : Sp := fun vs H Q E => ∃ p l ws i z, vs = [.ref p, .str z] ∧ RdAt C p l ws i H ∧ z.length ≤ 1000 ∧ (∀ w ∈ ws, w.length ≤ 1000) ∧
  (wd ws i = z → ∀ H', But p H H' → RdAt C p l ws (i + 1) H' → Q .non H') ∧ (¬ wd ws i = z → ∀ H', But p H H' → E (.ref N) none H')
def spName : Sp := fun vs H Q _ => ∃ z, vs = [.str z] ∧ z.length ≤ 1000 ∧ ∀ H', Same H H' → Q (.bl (nameM z)) H'
def spNum (N : Addr) : Sp := fun vs H Q E => ∃ z lo, vs = [.str z, .int lo] ∧ 0 ≤ lo ∧ lo ≤ 30 ∧ (∀ n, numM lo z = some n → Q (.int n) H) ∧ (numM lo z = none → E (.ref N) none H)
def spKind (N : Addr) : Sp := fun vs H Q E => ∃ c, vs = [.str (sg1 c)] ∧ (∀ k, kindM c = some k → Q (.str k.nm) H) ∧ (kindM c = none → E (.ref N) none H)
def spWords (N : Addr) : Sp := fun vs H Q E => ∃ z, vs = [.str z] ∧ z.length ≤ 1000 ∧ (∀ ws, lexM z = some ws → ∀ l H', Same H H' → H l = none → H' l = some (.lst (ws.map V.str)) → Q (.ref l) H') ∧ (lexM z = none → ∀ H', Same H H' → E (.ref N) none H')
/-- a reading of a piece from the word at i on -/
def RdOut (C N p l : Addr) (ws : List Str) (H : Hp) (Q : VK) (E : XK) : Option (T × Nat) → Prop
  | some (t, j) => ∀ v H', But p H H' → RdAt C p l ws j H' → TA H' v t → Q v H'
  | none => ∀ H', But p H H' → E (.ref N) none H'
structure WsOk (ws : List Str) : Prop where
  ws : ∀ w ∈ ws, w.length ≤ 1000
theorem WsOk.wd {ws : List Str} (h : WsOk ws) (i : Nat) : (wd ws i).length ≤ 1000 := by
  rcases Nat.lt_or_ge i ws.length with q | q
  · exact h.ws _ (List.mem_of_getElem? (wd_get q))
  · rw [wd_end (by omega)]; exact Nat.zero_le _
def spLevel (C N : Addr) (ks : List Kd) (f : List Str → Nat → Option (T × Nat)) (lv dp : Int) : Sp := fun vs H Q E => ∃ p l ws i, vs = [.ref p, .int lv, .int dp] ∧ RdAt C p l ws i H ∧ WsOk ws ∧ RdOut C N p l ws H Q E (levelM ws (f ws) ks i)
def spPiece (C N : Addr) (f : List Str → Nat → Option (T × Nat)) (dp : Int) : Sp := fun vs H Q E => ∃ p l ws i, vs = [.ref p, .int dp] ∧ RdAt C p l ws i H ∧ WsOk ws ∧ RdOut C N p l ws H Q E (f ws i)
def spRead (N : Addr) : Sp := fun vs H Q E => ∃ z, vs = [.str z] ∧ (z.length ≤ sizeLine) ∧ (∀ t, readM z = some t → ∀ v H', Same H H' → TA H' v t → Q v H') ∧ (readM z = none → ∀ H', Same H H' → E (.ref N) none H')
end Aw

namespace Aw
open PySem L2
/-! ### the law's own trees (lists in the place of tuples), dice, names -/
mutual
inductive LA (H : Hp) : V → T → Prop
  | num {a : Addr} {n : Int} : H a = some (.tup [.str "number", .int n]) → LA H (.ref a) (.num n)
  | name {a : Addr} {s : Str} : H a = some (.tup [.str "name", .str s]) → LA H (.ref a) (.name s)
  | gate {a : Addr} {s : Str} {b : Int} {v : V} {t : T} : H a = some (.tup [.str "gate", .str s, .int b, v]) → LA H v t → LA H (.ref a) (.gate s b t)
  | join {a p : Addr} {k : Kd} {vs : List V} {ts : List T} : H a = some (.tup [.str k.nm, .ref p]) → H p = some (.lst vs) → 0 < ts.length → LAs H vs ts → LA H (.ref a) (.join k ts)
inductive LAs (H : Hp) : List V → List T → Prop
  | nil : LAs H [] []
  | cons {v : V} {t : T} {vs : List V} {ts : List T} : LA H v t → LAs H vs ts → LAs H (v :: vs) (t :: ts)
end
theorem LA.isRef {H : Hp} {v : V} {t : T} (h : LA H v t) : ∃ a, v = .ref a := by
  cases h <;> exact ⟨_, rfl⟩
theorem LAs.headRef {H : Hp} {vs : List V} {ts : List T} (h : LAs H vs ts) (h0 : 0 < ts.length) : ∃ a r, vs = .ref a :: r := by
  cases h with
  | nil => exact absurd h0 (Nat.lt_irrefl 0)
  | cons a b =>
    obtain ⟨x, rfl⟩ := a.isRef
    exact ⟨x, _, rfl⟩
/-- tuples stay, and lists that begin with an object -/
def Keep (H H' : Hp) : Prop := (∀ b xs, H b = some (.tup xs) → H' b = some (.tup xs)) ∧ ∀ b a r, H b = some (.lst (.ref a :: r)) → H' b = some (.lst (.ref a :: r))
theorem Keep.of_same {H H' : Hp} (h : Same H H') : Keep H H' := ⟨fun b _ q => h b _ q, fun b _ _ q => h b _ q⟩
theorem Keep.of_but {H H' : Hp} {p : Addr} (h : But p H H') (hp : ∃ i r, H p = some (.lst (.int i :: r))) : Keep H H' := by
  obtain ⟨i, r, e⟩ := hp
  refine ⟨fun b xs q => h b _ q (fun z => ?_), fun b a r' q => h b _ q (fun z => ?_)⟩
  · subst z; rw [e] at q; cases q
  · subst z; rw [e] at q; cases q
mutual
theorem LA.mono {H H' : Hp} (h : Keep H H') : ∀ {v : V} {t : T}, LA H v t → LA H' v t
  | _, _, .num e => .num (h.1 _ _ e)
  | _, _, .name e => .name (h.1 _ _ e)
  | _, _, .gate e q => .gate (h.1 _ _ e) (LA.mono h q)
  | _, _, .join e e2 h0 q => .join (h.1 _ _ e) (by obtain ⟨a, r, rfl⟩ := q.headRef h0; exact h.2 _ _ _ e2) h0 (LAs.mono h q)
theorem LAs.mono {H H' : Hp} (h : Keep H H') : ∀ {v : List V} {t : List T}, LAs H v t → LAs H' v t
  | _, _, .nil => .nil
  | _, _, .cons a b => .cons (LA.mono h a) (LAs.mono h b)
end
theorem LAs.length {H : Hp} {vs : List V} {ts : List T} (h : LAs H vs ts) : vs.length = ts.length := by
  induction vs generalizing ts with
  | nil => cases h; rfl
  | cons v r ih => cases h with | cons a b => rw [List.length_cons, List.length_cons, ih b]
theorem LAs.snoc {H : Hp} {v : V} {t : T} (h1 : LA H v t) : ∀ {vs : List V} {ts : List T}, LAs H vs ts → LAs H (vs ++ [v]) (ts ++ [t])
  | _, _, .nil => .cons h1 .nil
  | _, _, .cons a b => .cons a (LAs.snoc h1 b)
theorem LAs.get {H : Hp} : ∀ {vs : List V} {ts : List T} {i : Nat} {v : V}, LAs H vs ts → vs[i]? = some v → ∃ t, ts[i]? = some t ∧ LA H v t
  | _, _, i, v, .nil, h => by simp at h
  | _, _, 0, v, .cons a b, h => ⟨_, rfl, by have e := Option.some.inj h; exact e ▸ a⟩
  | _, _, i + 1, v, .cons a b, h => by
    obtain ⟨t, h1, h2⟩ := LAs.get b (i := i) (v := v) (by simpa using h)
    exact ⟨t, by simpa using h1, h2⟩
/-- what a drawn tree keeps: at most d storeys -/
def TOk (P : Str → Prop) : Nat → T → Prop
  | _, .num n => 0 ≤ n ∧ n ≤ 30
  | _, .name s => P s
  | 0, .gate _ _ _ => False
  | 0, .join _ _ => False
  | d + 1, .gate s b t => P s ∧ 1 ≤ b ∧ b ≤ 30 ∧ TOk P d t
  | d + 1, .join _ ts => 2 ≤ ts.length ∧ ts.length ≤ 3 ∧ ∀ t ∈ ts, TOk P d t
theorem TOk.num {P : Str → Prop} {d : Nat} {n : Int} (h : TOk P d (.num n)) : 0 ≤ n ∧ n ≤ 30 := by cases d <;> exact h
theorem TOk.name {P : Str → Prop} {d : Nat} {s : Str} (h : TOk P d (.name s)) : P s := by cases d <;> exact h
theorem TOk.mkNum {P : Str → Prop} {d : Nat} {n : Int} (h : 0 ≤ n ∧ n ≤ 30) : TOk P d (.num n) := by cases d <;> exact h
theorem TOk.mkName {P : Str → Prop} {d : Nat} {s : Str} (h : P s) : TOk P d (.name s) := by cases d <;> exact h
theorem TOk.imp {P P' : Str → Prop} (hp : ∀ s, P s → P' s) : ∀ (d : Nat) {t : T}, TOk P d t → TOk P' d t
  | 0, .num _, h => h
  | 0, .name _, h => hp _ h
  | 0, .gate _ _ _, h => h
  | 0, .join _ _, h => h
  | d + 1, .num _, h => h
  | d + 1, .name _, h => hp _ h
  | d + 1, .gate _ _ _, h => ⟨hp _ h.1, h.2.1, h.2.2.1, TOk.imp hp d h.2.2.2⟩
  | d + 1, .join _ _, h => ⟨h.1, h.2.1, fun t ht => TOk.imp hp d (h.2.2 t ht)⟩
def NameOk (s : Str) : Prop := nameM s = true
def DiceAt (H : Hp) (d : Addr) : Prop := ∃ x y : Int, H d = some (.lst [.int x, .int y]) ∧ 0 ≤ x ∧ x < 2147483647 ∧ 0 ≤ y
theorem DiceAt.mono {H H' : Hp} {d : Addr} (h : DiceAt H d) (s : Same H H') : DiceAt H' d := by
  obtain ⟨x, y, e, q⟩ := h
  exact ⟨x, y, s _ _ e, q⟩
theorem DiceAt.keep {H H' : Hp} {d : Addr} (h : DiceAt H d) (b : But d H H') : Keep H H' := by
  obtain ⟨x, y, e, q⟩ := h
  exact .of_but b ⟨x, _, e⟩
/-- what is new in H' -/
def fresh (H H' : Hp) : Hp := fun b => match H b with
  | none => H' b
  | some _ => none
def hide (D : Addr) (G : Hp) : Hp := fun b => if b = D then none else G b
theorem fresh_at {H H' : Hp} {p : Addr} {o : HO} (h : H p = none) (e : H' p = some o) : fresh H H' p = some o := by
  unfold fresh
  rw [h]
  exact e
theorem fresh_inv {H H' : Hp} {p : Addr} {o : HO} (h : fresh H H' p = some o) : H p = none ∧ H' p = some o := by
  unfold fresh at h
  cases e : H p with
  | none => rw [e] at h; exact ⟨rfl, h⟩
  | some u => rw [e] at h; cases h
theorem fresh_sub {H H' : Hp} : Same (fresh H H') H' := fun b o h => (fresh_inv h).2
theorem free_of {H H' : Hp} {dd p : Addr} (D : DiceAt H' dd) (b : But dd H H') (h : H' p = none) : H p = none := by
  cases e : H p with
  | none => rfl
  | some o =>
    by_cases c : p = dd
    · subst c
      obtain ⟨x, y, e2, _⟩ := D
      rw [h] at e2
      cases e2
    · have := b p o e c
      rw [h] at this
      cases this
/-- what a callee made new is new for the caller too -/
theorem fresh_step {H H1 H2 H3 : Hp} {dd : Addr} (D : DiceAt H1 dd) (b : But dd H H1) (s : Same H2 H3) : Same (fresh H1 H2) (fresh H H3) := fun p o h => by
  obtain ⟨h1, h2⟩ := fresh_inv h
  exact fresh_at (free_of D b h1) (s p o h2)
/-! ### how a tree is written -/
def Kd.rank : Kd → Int
  | .most => 1
  | .least => 2
  | .sum => 3
def sp1 : Str := " "
def Kd.sep (k : Kd) : Str := sp1 ++ k.sg ++ sp1
mutual
def wr (firm : Int) : T → Str
  | .num n => tx n
  | .name s => s
  | .gate s b t => "[" ++ s ++ " " ++ tx b ++ "] " ++ wr 4 t
  | .join k ts => if k.rank < firm then "(" ++ wrs k.sep (k.rank + 1) ts ++ ")" else wrs k.sep (k.rank + 1) ts
def wrs (sep : Str) (firm : Int) : List T → Str
  | [] => Str.empty
  | [t] => wr firm t
  | t :: r => wr firm t ++ sep ++ wrs sep firm r
end
theorem app_assoc (a b c : Str) : a ++ b ++ c = a ++ (b ++ c) := by
  show (⟨(a.cps ++ b.cps) ++ c.cps⟩ : Str) = ⟨a.cps ++ (b.cps ++ c.cps)⟩
  rw [Array.append_assoc]
theorem len_app' (a b : Str) : (a ++ b).length = a.length + b.length := by
  show (a.cps ++ b.cps).size = _
  rw [Array.size_append] <;> rfl
theorem wrs_one (sep : Str) (f : Int) (t : T) : wrs sep f [t] = wr f t := by unfold wrs; rfl
theorem wrs_two (sep : Str) (f : Int) (t u : T) (r : List T) : wrs sep f (t :: u :: r) = wr f t ++ sep ++ wrs sep f (u :: r) := by conv => lhs; unfold wrs
theorem wrs_snoc (sep : Str) (f : Int) (t : T) : ∀ {ts : List T}, ts ≠ [] → wrs sep f (ts ++ [t]) = wrs sep f ts ++ sep ++ wr f t
  | [], h => absurd rfl h
  | [u], _ => by
    show wrs sep f [u, t] = _
    rw [wrs_two, wrs_one, wrs_one]
  | u :: v :: r, _ => by
    show wrs sep f (u :: v :: (r ++ [t])) = _
    rw [wrs_two, wrs_two]
    have ih := wrs_snoc sep f t (ts := v :: r) (by intro z; cases z)
    rw [show v :: (r ++ [t]) = (v :: r) ++ [t] from rfl, ih, app_assoc, app_assoc, app_assoc, app_assoc, app_assoc]
theorem tx_len {n : Int} (h : 0 ≤ n ∧ n ≤ 30) : (tx n).length ≤ 2 := by
  have q : ∀ k : Nat, k < 31 → (tx (k : Int)).length ≤ 2 := by decide +kernel
  have e := q n.toNat (by omega)
  rwa [show ((n.toNat : Nat) : Int) = n by omega] at e
def LB : Nat → Nat
  | 0 => 6
  | d + 1 => 3 * LB d + 20
theorem LB_six : ∀ d, 6 ≤ LB d
  | 0 => Nat.le_refl 6
  | d + 1 => by have := LB_six d; show 6 ≤ 3 * LB d + 20; omega
theorem sep_len (k : Kd) : k.sep.length = 3 := by cases k <;> decide +kernel
theorem wrs_len {sep : Str} {f : Int} {B : Nat} (hs : sep.length = 3) : ∀ {ts : List T}, ts ≠ [] → (∀ t ∈ ts, (wr f t).length ≤ B) → (wrs sep f ts).length + 3 ≤ ts.length * (B + 3)
  | [], h, _ => absurd rfl h
  | [u], _, h => by
    rw [wrs_one]
    have := h u (List.mem_singleton.mpr rfl)
    show _ ≤ 1 * (B + 3)
    omega
  | u :: v :: r, _, h => by
    rw [wrs_two, len_app', len_app', hs]
    have ih := wrs_len hs (ts := v :: r) (f := f) (by intro z; cases z) fun t ht => h t (List.mem_cons_of_mem _ ht)
    have h1 := h u List.mem_cons_self
    have e : (u :: v :: r).length * (B + 3) = (v :: r).length * (B + 3) + (B + 3) := by
      rw [List.length_cons (a := u), Nat.add_mul, Nat.one_mul]
    omega
theorem wr_len {P : Str → Prop} (hP : ∀ s, P s → s.length ≤ 6) : ∀ (d : Nat) {t : T} (f : Int), TOk P d t → (wr f t).length ≤ LB d
  | d, .num n, f, h => by
    have := tx_len h.num
    have := LB_six d
    unfold wr
    omega
  | d, .name s, f, h => by
    have := hP _ h.name
    have := LB_six d
    unfold wr
    omega
  | 0, .gate _ _ _, _, h => h.elim
  | 0, .join _ _, _, h => h.elim
  | d + 1, .gate s b t, f, h => by
    obtain ⟨h1, h2, h3, h4⟩ := h
    have e1 := hP _ h1
    have e2 := tx_len (n := b) ⟨by omega, h3⟩
    have e3 := wr_len hP d 4 h4
    unfold wr
    rw [len_app', len_app', len_app', len_app', len_app']
    have c1 : ("[" : Str).length = 1 := by decide +kernel
    have c2 : (" " : Str).length = 1 := by decide +kernel
    have c3 : ("] " : Str).length = 2 := by decide +kernel
    show _ ≤ 3 * LB d + 20
    omega
  | d + 1, .join k ts, f, h => by
    obtain ⟨h1, h2, h3⟩ := h
    have hne : ts ≠ [] := by intro z; subst z; simp at h1
    have e := wrs_len (f := k.rank + 1) (B := LB d) (sep_len k) hne fun t ht => wr_len hP d _ (h3 t ht)
    have e2 : ts.length * (LB d + 3) ≤ 3 * (LB d + 3) := Nat.mul_le_mul_right _ h2
    have c1 : ("(" : Str).length = 1 := by decide +kernel
    have c2 : (")" : Str).length = 1 := by decide +kernel
    unfold wr
    show _ ≤ 3 * LB d + 20
    split
    · rw [len_app', len_app']; omega
    · omega
end Aw

namespace Aw
open PySem L2
/-! ### walks in general: a comprehension's turns over whatever stands still -/
theorem walk_gen {J : It} {n : Nat} {G : Hp → Prop} {Y : Nat → Hp → V → Hp → Prop} (w : Walk J n G Y) {B : V → Hp → (Hp → Prop) → Prop} {Qd : Hp → Prop} {Hs : Hp} (Pv : Nat → Hp → Prop) (h0 : Pv 0 Hs) (hG : ∀ i H, i ≤ n → Pv i H → G H)
    (hs : ∀ i x H H', i < n → Pv i H → Y i H x H' → B x H' (Pv (i + 1))) (hd : ∀ H, Pv n H → Qd H) :
    ∃ W : Nat → Nat → Hp → Prop, (∃ m, W 0 m Hs) ∧ ∀ i m H, W i m H → (J.stop i H ∧ Qd H) ∨ (J.go i H ∧ ∃ Nx : Hp → Prop, (∀ H', Nx H' → ∃ m', m' < m ∧ W (i + 1) m' H') ∧ ∀ x H', J.yld i H x H' → B x H' Nx) := by
  refine ⟨fun i m H => m = n - i ∧ i ≤ n ∧ Pv i H, ⟨n, by simp, Nat.zero_le _, h0⟩, ?_⟩
  rintro i m H ⟨rfl, hi, p⟩
  have q := hG i H hi p
  by_cases hlt : i < n
  · exact .inr ⟨w.goes i H hlt q, Pv (i + 1), fun H' p' => ⟨n - (i + 1), by omega, rfl, hlt, p'⟩, fun x H' y => hs i x H H' hlt p (w.yields i H x H' hlt q y)⟩
  · have e : i = n := by omega
    subst e
    exact .inl ⟨w.stops H q, hd H p⟩
/-! ### the names that stand in a tree -/
mutual
def named : T → List Str
  | .num _ => []
  | .name s => [s]
  | .gate s _ t => s :: named t
  | .join _ ts => nameds ts
def nameds : List T → List Str
  | [] => []
  | t :: r => named t ++ nameds r
end
theorem nameds_take {ts : List T} {i : Nat} {t : T} (h : ts[i]? = some t) : nameds (ts.take (i + 1)) = nameds (ts.take i) ++ named t := by
  rw [take_more h]
  generalize ts.take i = l
  induction l with
  | nil =>
    show named t ++ nameds [] = [] ++ named t
    simp [nameds]
  | cons u r ih =>
    show named u ++ nameds (r ++ [t]) = (named u ++ nameds r) ++ named t
    rw [ih, List.append_assoc]
def NB : Nat → Nat
  | 0 => 1
  | d + 1 => 3 * NB d + 1
theorem NB_one : ∀ d, 1 ≤ NB d
  | 0 => Nat.le_refl 1
  | d + 1 => by show 1 ≤ 3 * NB d + 1; omega
theorem nameds_len {B : Nat} : ∀ {ts : List T}, (∀ t ∈ ts, (named t).length ≤ B) → (nameds ts).length ≤ ts.length * B
  | [], _ => Nat.zero_le _
  | t :: r, h => by
    have ih := nameds_len (ts := r) fun u hu => h u (List.mem_cons_of_mem _ hu)
    have h1 := h t List.mem_cons_self
    show (named t ++ nameds r).length ≤ _
    rw [List.length_append, List.length_cons, Nat.add_mul, Nat.one_mul]
    omega
theorem named_len {P : Str → Prop} : ∀ (d : Nat) {t : T}, TOk P d t → (named t).length ≤ NB d
  | d, .num _, _ => Nat.zero_le _
  | d, .name _, _ => NB_one d
  | 0, .gate _ _ _, h => h.elim
  | 0, .join _ _, h => h.elim
  | d + 1, .gate s n t, h => by
    have e := named_len d h.2.2.2
    show (named t).length + 1 ≤ 3 * NB d + 1
    omega
  | d + 1, .join k ts, h => by
    obtain ⟨h1, h2, h3⟩ := h
    have e := nameds_len (ts := ts) fun t ht => named_len d (h3 t ht)
    have e2 : ts.length * NB d ≤ 3 * NB d := Nat.mul_le_mul_right _ h2
    show (nameds ts).length ≤ 3 * NB d + 1
    omega
theorem NB_le : ∀ {d : Nat}, d ≤ 2 → NB d ≤ 13
  | 0, _ => by decide
  | 1, _ => by decide
  | 2, _ => by decide
  | _ + 3, h => by omega
/-- each once, in the order in which they stand first -/
def addN (acc : List Str) (s : Str) : List Str := if s ∈ acc then acc else acc ++ [s]
def once (l : List Str) : List Str := l.foldl addN []
theorem once_take {l : List Str} {i : Nat} {s : Str} (h : l[i]? = some s) : once (l.take (i + 1)) = addN (once (l.take i)) s := by
  unfold once
  rw [take_more h, List.foldl_append]
  rfl
theorem addN_len (acc : List Str) (s : Str) : (addN acc s).length ≤ acc.length + 1 := by
  unfold addN
  split
  · omega
  · rw [List.length_append, List.length_singleton]; omega
theorem once_len (l : List Str) : (once l).length ≤ l.length := by
  have g : ∀ (l acc : List Str), (l.foldl addN acc).length ≤ acc.length + l.length := by
    intro l
    induction l with
    | nil => intro acc; exact Nat.le_refl _
    | cons s r ih =>
      intro acc
      have h1 := ih (addN acc s)
      have h2 := addN_len acc s
      rw [List.foldl_cons, List.length_cons]
      omega
  have := g l []
  simpa [once] using this
/-- the dict of the names, each with True -/
def nkvs (l : List Str) : List (Key × V) := l.map fun s => (Sum.inr s, .bl true)
theorem nkvs_put (l : List Str) (s : Str) : putK (nkvs l) (Sum.inr s) (.bl true) = nkvs (addN l s) := by
  unfold putK
  have e : ((nkvs l).any fun kv => decide (kv.1 = Sum.inr s)) = decide (s ∈ l) := by
    unfold nkvs
    rw [List.any_map]
    induction l with
    | nil => rfl
    | cons a r ih =>
      rw [List.any_cons, ih]
      show (decide ((Sum.inr a : Key) = Sum.inr s) || decide (s ∈ r)) = decide (s ∈ a :: r)
      by_cases c : a = s
      · subst c; simp
      · have c2 : ¬ (Sum.inr a : Key) = Sum.inr s := by intro z; exact c (Sum.inr.inj z)
        rw [decide_eq_false c2, Bool.false_or]
        have : (s ∈ a :: r) ↔ s ∈ r := by
          rw [List.mem_cons]
          exact ⟨fun h => h.elim (fun z => absurd z.symm c) id, .inr⟩
        exact decide_eq_decide.mpr this.symm
  rw [e]
  unfold addN
  by_cases c : s ∈ l
  · rw [decide_eq_true c, if_pos rfl, if_pos c]
    have : (nkvs l).map (fun kv => if kv.1 = (Sum.inr s : Key) then (kv.1, V.bl true) else kv) = nkvs l := by
      unfold nkvs
      rw [List.map_map]
      apply List.map_congr_left
      intro a _
      show (if (Sum.inr a : Key) = Sum.inr s then ((Sum.inr a : Key), V.bl true) else ((Sum.inr a : Key), V.bl true)) = _
      split <;> rfl
    exact this
  · rw [decide_eq_false c, if_neg Bool.false_ne_true, if_neg c]
    unfold nkvs
    rw [List.map_append]
    rfl
theorem nkvs_keys (l : List Str) : (nkvs l).map (fun kv => kV kv.1) = l.map V.str := by
  unfold nkvs
  rw [List.map_map]
  rfl
theorem dp_strs {K : PySem.W.Frag} {H : Hp} : ∀ (l : List Str), DpAll K H (l.map V.str) (l.map PyData.str)
  | [] => .nil
  | s :: r => .cons (.str s) (dp_strs r)
theorem in_strs (s : Str) (l : List Str) : inV (.str s) (l.map V.str) = decide (s ∈ l) := by
  unfold inV
  rw [List.any_map]
  induction l with
  | nil => rfl
  | cons a r ih =>
    rw [List.any_cons, ih]
    show ((a == s) || decide (s ∈ r)) = decide (s ∈ a :: r)
    by_cases c : a = s
    · subst c; simp
    · have e : (a == s) = false := beq_eq_false_iff_ne.mpr c
      rw [e, Bool.false_or]
      have : (s ∈ a :: r) ↔ s ∈ r := by
        rw [List.mem_cons]
        exact ⟨fun h => h.elim (fun z => absurd z.symm c) id, .inr⟩
      exact decide_eq_decide.mpr this.symm
theorem flat_strs (l : List Str) : (l.map V.str).all flatV = true := by
  rw [List.all_map, List.all_eq_true]
  intro _ _
  rfl
theorem strOk_name {s : Str} (h : NameOk s) : PyData.strOk s = true := by
  unfold NameOk nameM at h
  have q := (Bool.and_eq_true_iff.mp h).2
  have q2 : ∀ c ∈ LET, c < 0x110000 := by decide +kernel
  unfold PyData.strOk
  rw [← Array.all_toList, List.all_eq_true]
  exact fun c hc => decide_eq_true (q2 c (of_decide_eq_true (List.all_eq_true.mp q c hc)))
theorem can_strs : ∀ (l : List Str), (∀ s ∈ l, NameOk s) → PyData.canLayAll0 (l.map PyData.str) = true
  | [], _ => by simp [PyData.canLayAll0]
  | s :: r, h => by
    show (PyData.canLay0 (.str s) && PyData.canLayAll0 (r.map PyData.str)) = true
    rw [can_strs r fun u hu => h u (List.mem_cons_of_mem _ hu), Bool.and_true]
    unfold PyData.canLay0
    exact strOk_name (h s List.mem_cons_self)
theorem depth_strs : ∀ (l : List Str), PyData.depthAll (l.map PyData.str) ≤ 1
  | [] => by show PyData.depthAll [] ≤ 1; unfold PyData.depthAll; omega
  | s :: r => by
    have ih := depth_strs r
    show max (PyData.depth (.str s)) (PyData.depthAll (r.map PyData.str)) ≤ 1
    have e : PyData.depth (.str s) ≤ 1 := by unfold PyData.depth; omega
    omega
theorem shaped_strs {l : List Str} (h : ∀ s ∈ l, NameOk s) : SeqAt.shaped (.list (l.map PyData.str)) = true := by
  unfold SeqAt.shaped
  have e1 : PyData.canLay0 (.list (l.map PyData.str)) = true := by unfold PyData.canLay0; exact can_strs l h
  have e2 : PyData.depth (.list (l.map PyData.str)) ≤ 64 := by
    have := depth_strs l
    unfold PyData.depth
    omega
  rw [e1, decide_eq_true e2]
  rfl
theorem eqv_strs {l : List Str} (h : ∀ s ∈ l, NameOk s) : PyData.eqv (.list (l.map PyData.str)) (.list (l.map PyData.str)) = true := by
  refine SeqAt.eqv_refl _ ?_
  unfold PyData.canLay0
  exact can_strs l h
mutual
theorem named_ok {P : Str → Prop} : ∀ (d : Nat) {t : T}, TOk P d t → ∀ s ∈ named t, P s
  | d, .num _, _, s, hs => by cases hs
  | d, .name z, h, s, hs => by rw [List.mem_singleton.mp hs]; exact h.name
  | 0, .gate _ _ _, h, _, _ => h.elim
  | 0, .join _ _, h, _, _ => h.elim
  | d + 1, .gate z n t, h, s, hs => by
    rcases List.mem_cons.mp hs with q | q
    · rw [q]; exact h.1
    · exact named_ok d h.2.2.2 s q
  | d + 1, .join k ts, h, s, hs => nameds_ok d h.2.2 s hs
theorem nameds_ok {P : Str → Prop} : ∀ (d : Nat) {ts : List T}, (∀ t ∈ ts, TOk P d t) → ∀ s ∈ nameds ts, P s
  | d, [], _, s, hs => by cases hs
  | d, t :: r, h, s, hs => by
    rcases List.mem_append.mp (show s ∈ named t ++ nameds r from hs) with q | q
    · exact named_ok d (h t List.mem_cons_self) s q
    · exact nameds_ok d (fun u hu => h u (List.mem_cons_of_mem _ hu)) s q
end
theorem addN_mem {acc : List Str} {s x : Str} (h : x ∈ addN acc s) : x ∈ acc ∨ x = s := by
  unfold addN at h
  split at h
  · exact .inl h
  · rcases List.mem_append.mp h with q | q
    · exact .inl q
    · exact .inr (List.mem_singleton.mp q)
theorem once_mem {l : List Str} {x : Str} (h : x ∈ once l) : x ∈ l := by
  have g : ∀ (l acc : List Str), x ∈ l.foldl addN acc → x ∈ acc ∨ x ∈ l := by
    intro l
    induction l with
    | nil => intro acc h; exact .inl h
    | cons s r ih =>
      intro acc h
      rcases ih _ h with q | q
      · rcases addN_mem q with z | z
        · exact .inl z
        · exact .inr (z ▸ List.mem_cons_self)
      · exact .inr (List.mem_cons_of_mem _ q)
  rcases g l [] h with q | q
  · cases q
  · exact q
end Aw

namespace Aw
open PySem L2
/-! ### the words of a written tree -/
def Kd.rk : Kd → Nat
  | .most => 1
  | .least => 2
  | .sum => 3
theorem Kd.rk_rank (k : Kd) : k.rank = (k.rk : Int) := by cases k <;> rfl
mutual
def ww (f : Nat) : T → List Str
  | .num n => [tx n]
  | .name s => [s]
  | .gate s b t => "[" :: s :: tx b :: "]" :: ww 4 t
  | .join k ts => if k.rk < f then "(" :: (wws (k.rk + 1) k.sg ts ++ ([(")" : Str)] : List Str)) else wws (k.rk + 1) k.sg ts
def wws (f : Nat) (sg : Str) : List T → List Str
  | [] => []
  | t :: r => ww f t ++ wwr f sg r
def wwr (f : Nat) (sg : Str) : List T → List Str
  | [] => []
  | t :: r => sg :: (ww f t ++ wwr f sg r)
end
/-! ### the lexer over a written tree -/
theorem str_eta (z : Str) : (⟨z.cps.toList.toArray⟩ : Str) = z := by cases z; rfl
theorem lex_other {c : Nat} (h : kindM c = some .other) (r : List Nat) (ws : List Str) (b : Kn) : lexGo (c :: r) ws b = lexGo r (ws ++ [sg1 c]) .other := by
  conv => lhs; unfold lexGo
  rw [h]
  show lexGo r (lexStep (ws, b) c .other) .other = _
  unfold lexStep
  rw [if_neg (by rintro ⟨_, h | h⟩ <;> cases h), if_pos (by intro z; cases z)]
theorem lex_blank {c : Nat} (h : kindM c = some .blank) (r : List Nat) (ws : List Str) (b : Kn) : lexGo (c :: r) ws b = lexGo r ws .blank := by
  conv => lhs; unfold lexGo
  rw [h]
  show lexGo r (lexStep (ws, b) c .blank) .blank = _
  unfold lexStep
  rw [if_neg (by rintro ⟨_, h | h⟩ <;> cases h), if_neg (by intro z; exact z rfl)]
def Sep (b : Kn) : Prop := b = .other ∨ b = .blank
/-- the signs of one kind in a row -/
theorem lex_more {k : Kn} (hk : k = .letter ∨ k = .figure) (rest : List Nat) (ws : List Str) : ∀ (cs : List Nat) (z : Str), (∀ c ∈ cs, kindM c = some k) → lexGo (cs ++ rest) (ws ++ [z]) k = lexGo rest (ws ++ [z ++ ⟨cs.toArray⟩]) k
  | [], z, _ => by
    have e : z ++ (⟨([] : List Nat).toArray⟩ : Str) = z := by
      show (⟨z.cps ++ #[]⟩ : Str) = z
      rw [Array.append_empty]
    rw [e]
    rfl
  | c :: r, z, h => by
    rw [List.cons_append]
    conv => lhs; unfold lexGo
    rw [h c List.mem_cons_self]
    show lexGo (r ++ rest) (lexStep (ws ++ [z], k) c k) k = _
    have e : lexStep (ws ++ [z], k) c k = ws ++ [z ++ sg1 c] := by
      unfold lexStep
      rw [if_pos ⟨rfl, hk⟩]
      unfold addLast
      dsimp only
      have hl : (ws ++ [z]).length - 1 = ws.length := by rw [List.length_append, List.length_singleton]; omega
      have hw : wd (ws ++ [z]) ws.length = z := by
        unfold wd
        rw [List.getD_eq_getElem?_getD, List.getElem?_append_right (Nat.le_refl _), Nat.sub_self]
        rfl
      rw [hl, hw, List.set_append_right _ _ (Nat.le_refl _), Nat.sub_self]
      rfl
    rw [e, lex_more hk rest ws r (z ++ sg1 c) fun x hx => h x (List.mem_cons_of_mem _ hx)]
    congr 3
    show (⟨(z.cps ++ #[c]) ++ r.toArray⟩ : Str) = ⟨z.cps ++ (c :: r).toArray⟩
    congr 1
    rw [Array.append_assoc]
    congr 1
    simp
theorem lex_word {k : Kn} (hk : k = .letter ∨ k = .figure) {z : Str} (hz : 1 ≤ z.length) (h : ∀ c ∈ z.cps.toList, kindM c = some k) (rest : List Nat) (ws : List Str) {b : Kn} (hb : Sep b) : lexGo (z.cps.toList ++ rest) ws b = lexGo rest (ws ++ [z]) k := by
  cases e : z.cps.toList with
  | nil =>
    have : z.length = z.cps.toList.length := (Array.length_toList).symm
    rw [e] at this
    rw [this] at hz
    exact absurd hz (by decide)
  | cons c r =>
    rw [e] at h
    rw [List.cons_append]
    conv => lhs; unfold lexGo
    rw [h c List.mem_cons_self]
    show lexGo (r ++ rest) (lexStep (ws, b) c k) k = _
    have e1 : lexStep (ws, b) c k = ws ++ [sg1 c] := by
      unfold lexStep
      rw [if_neg (by rintro ⟨q, _⟩; dsimp only at q; subst q; rcases hb with q | q <;> rcases hk with p | p <;> (rw [p] at q; cases q)), if_pos (by intro q; subst q; rcases hk with p | p <;> cases p)]
    rw [e1, lex_more hk rest ws r (sg1 c) fun x hx => h x (List.mem_cons_of_mem _ hx)]
    congr 3
    show (⟨#[c] ++ r.toArray⟩ : Str) = z
    rw [← str_eta z, e]
    congr 1
    simp
theorem kind_let {c : Nat} (h : c ∈ LET) : kindM c = some .letter := by unfold kindM; rw [if_pos h]
theorem kind_fig {c : Nat} (h : c ∈ FIG) : kindM c = some .figure := by
  have q : ∀ c ∈ FIG, kindM c = some .figure := by decide +kernel
  exact q c h
theorem name_facts {s : Str} (h : NameOk s) : 1 ≤ s.length ∧ s.length ≤ 6 ∧ ∀ c ∈ s.cps.toList, c ∈ LET := by
  unfold NameOk nameM at h
  have q := Bool.and_eq_true_iff.mp h
  have q1 := of_decide_eq_true q.1
  exact ⟨q1.1, q1.2, fun c hc => of_decide_eq_true (List.all_eq_true.mp q.2 c hc)⟩
theorem lex_name {s : Str} (h : NameOk s) (rest : List Nat) (ws : List Str) {b : Kn} (hb : Sep b) : lexGo (s.cps.toList ++ rest) ws b = lexGo rest (ws ++ [s]) .letter := by
  obtain ⟨h1, _, h3⟩ := name_facts h
  exact lex_word (.inl rfl) h1 (fun c hc => kind_let (h3 c hc)) rest ws hb
theorem num_facts {n : Int} (h : 0 ≤ n ∧ n ≤ 30) : 1 ≤ (tx n).length ∧ (∀ c ∈ (tx n).cps.toList, c ∈ FIG) ∧ numM 0 (tx n) = some n ∧ nameM (tx n) = false ∧ ¬ tx n = "(" ∧ ¬ tx n = "[" := by
  have q : ∀ k : Nat, k < 31 → 1 ≤ (tx (k : Int)).length ∧ (∀ c ∈ (tx (k : Int)).cps.toList, c ∈ FIG) ∧ numM 0 (tx (k : Int)) = some (k : Int) ∧ nameM (tx (k : Int)) = false ∧ ¬ tx (k : Int) = "(" ∧ ¬ tx (k : Int) = "[" := by decide +kernel
  have e := q n.toNat (by omega)
  rwa [show ((n.toNat : Nat) : Int) = n by omega] at e
theorem bound_facts {n : Int} (h : 1 ≤ n ∧ n ≤ 30) : numM 1 (tx n) = some n := by
  have q : ∀ k : Nat, k < 31 → 1 ≤ k → numM 1 (tx (k : Int)) = some (k : Int) := by decide +kernel
  have e := q n.toNat (by omega) (by omega)
  rwa [show ((n.toNat : Nat) : Int) = n by omega] at e
theorem lex_num {n : Int} (h : 0 ≤ n ∧ n ≤ 30) (rest : List Nat) (ws : List Str) {b : Kn} (hb : Sep b) : lexGo ((tx n).cps.toList ++ rest) ws b = lexGo rest (ws ++ [tx n]) .figure := by
  obtain ⟨h1, h3, _⟩ := num_facts h
  exact lex_word (.inr rfl) h1 (fun c hc => kind_fig (h3 c hc)) rest ws hb
theorem cps_app (a b : Str) : (a ++ b).cps.toList = a.cps.toList ++ b.cps.toList := by
  show (a.cps ++ b.cps).toList = _
  rw [Array.toList_append]
theorem lex_sep (k : Kd) (rest : List Nat) (ws : List Str) (b : Kn) : lexGo (k.sep.cps.toList ++ rest) ws b = lexGo rest (ws ++ [k.sg]) .blank := by
  have e : k.sep.cps.toList = [32] ++ k.sg.cps.toList ++ [32] := by cases k <;> decide +kernel
  obtain ⟨c, h1, h2, h3⟩ : ∃ c, k.sg.cps.toList = [c] ∧ kindM c = some .other ∧ sg1 c = k.sg := by
    cases k
    · exact ⟨43, by decide +kernel⟩
    · exact ⟨38, by decide +kernel⟩
    · exact ⟨124, by decide +kernel⟩
  rw [e, h1]
  show lexGo (32 :: c :: 32 :: rest) ws b = _
  rw [lex_blank (by decide +kernel), lex_other h2, lex_blank (by decide +kernel), h3]
theorem lex_open (rest : List Nat) (ws : List Str) (b : Kn) : lexGo (("(" : Str).cps.toList ++ rest) ws b = lexGo rest (ws ++ ([("(" : Str)] : List Str)) .other := by
  rw [show ("(" : Str).cps.toList = [40] by decide +kernel]
  show lexGo (40 :: rest) ws b = _
  rw [lex_other (by decide +kernel), show sg1 40 = "(" by decide +kernel]
theorem lex_close (rest : List Nat) (ws : List Str) (b : Kn) : lexGo ((")" : Str).cps.toList ++ rest) ws b = lexGo rest (ws ++ ([(")" : Str)] : List Str)) .other := by
  rw [show (")" : Str).cps.toList = [41] by decide +kernel]
  show lexGo (41 :: rest) ws b = _
  rw [lex_other (by decide +kernel), show sg1 41 = ")" by decide +kernel]
theorem lex_gopen (rest : List Nat) (ws : List Str) (b : Kn) : lexGo (("[" : Str).cps.toList ++ rest) ws b = lexGo rest (ws ++ ([("[" : Str)] : List Str)) .other := by
  rw [show ("[" : Str).cps.toList = [91] by decide +kernel]
  show lexGo (91 :: rest) ws b = _
  rw [lex_other (by decide +kernel), show sg1 91 = "[" by decide +kernel]
theorem lex_gclose (rest : List Nat) (ws : List Str) (b : Kn) : lexGo (("] " : Str).cps.toList ++ rest) ws b = lexGo rest (ws ++ ([("]" : Str)] : List Str)) .blank := by
  rw [show ("] " : Str).cps.toList = [93, 32] by decide +kernel]
  show lexGo (93 :: 32 :: rest) ws b = _
  rw [lex_other (by decide +kernel), lex_blank (by decide +kernel), show sg1 93 = "]" by decide +kernel]
theorem lex_sp (rest : List Nat) (ws : List Str) (b : Kn) : lexGo ((" " : Str).cps.toList ++ rest) ws b = lexGo rest ws .blank := by
  rw [show (" " : Str).cps.toList = [32] by decide +kernel]
  show lexGo (32 :: rest) ws b = _
  rw [lex_blank (by decide +kernel)]
/-- the text z, from a place between words on, is the words W -/
def Lx (z : Str) (W : List Str) : Prop := ∀ (rest : List Nat) (ws : List Str) (b : Kn), Sep b → ∃ b', lexGo (z.cps.toList ++ rest) ws b = lexGo rest (ws ++ W) b'
theorem lx_wrs {k : Kd} {f : Nat} : ∀ {ts : List T}, ts ≠ [] → (∀ t ∈ ts, Lx (wr (f : Int) t) (ww f t)) → Lx (wrs k.sep (f : Int) ts) (wws f k.sg ts)
  | [], h, _ => absurd rfl h
  | [t], _, h => by
    rw [wrs_one]
    show Lx _ (ww f t ++ [])
    rw [List.append_nil]
    exact h t (List.mem_singleton.mpr rfl)
  | t :: u :: r, _, h => by
    rw [wrs_two]
    intro rest ws b hb
    obtain ⟨b1, e1⟩ := h t List.mem_cons_self (k.sep.cps.toList ++ ((wrs k.sep (f : Int) (u :: r)).cps.toList ++ rest)) ws b hb
    obtain ⟨b2, e2⟩ := lx_wrs (ts := u :: r) (k := k) (f := f) (by intro z; cases z) (fun t ht => h t (List.mem_cons_of_mem _ ht)) rest (ws ++ ww f t ++ [k.sg]) .blank (.inr rfl)
    refine ⟨b2, ?_⟩
    rw [cps_app, cps_app, List.append_assoc, List.append_assoc, e1, lex_sep, e2]
    congr 1
    show _ = ws ++ (ww f t ++ (k.sg :: (ww f u ++ wwr f k.sg r)))
    simp [wws]
theorem lx_wr : ∀ (d : Nat) {t : T} (f : Nat), TOk NameOk d t → Lx (wr (f : Int) t) (ww f t)
  | d, .num n, f, h => fun rest ws b hb => ⟨.figure, by
      unfold wr ww
      exact lex_num h.num rest ws hb⟩
  | d, .name s, f, h => fun rest ws b hb => ⟨.letter, by
      unfold wr ww
      exact lex_name h.name rest ws hb⟩
  | 0, .gate _ _ _, _, h => h.elim
  | 0, .join _ _, _, h => h.elim
  | d + 1, .gate s n t, f, h => fun rest ws b hb => by
    obtain ⟨h1, h2, h3, h4⟩ := h
    obtain ⟨b', e⟩ := lx_wr d 4 h4 rest (ws ++ ([("[" : Str)] : List Str) ++ [s] ++ [tx n] ++ ([("]" : Str)] : List Str)) .blank (.inr rfl)
    refine ⟨b', ?_⟩
    unfold wr ww
    rw [cps_app, cps_app, cps_app, cps_app, cps_app]
    simp only [List.append_assoc]
    rw [lex_gopen, lex_name h1 _ _ (.inl rfl), lex_sp, lex_num ⟨by omega, h3⟩ _ _ (.inr rfl), lex_gclose]
    rw [show ((4 : Nat) : Int) = 4 from rfl] at e
    rw [e]
    congr 1
    simp
  | d + 1, .join k ts, f, h => fun rest ws b hb => by
    obtain ⟨h1, h2, h3⟩ := h
    have hne : ts ≠ [] := by intro z; subst z; simp at h1
    have L : Lx (wrs k.sep (k.rank + 1) ts) (wws (k.rk + 1) k.sg ts) := by
      have q := lx_wrs (k := k) (f := k.rk + 1) hne fun t ht => lx_wr d (k.rk + 1) (h3 t ht)
      rw [show (((k.rk + 1 : Nat)) : Int) = k.rank + 1 by rw [Kd.rk_rank]; omega] at q
      exact q
    unfold wr ww
    by_cases c : k.rk < f
    · rw [if_pos c, if_pos (by rw [Kd.rk_rank]; omega)]
      obtain ⟨b', e⟩ := L ((")" : Str).cps.toList ++ rest) (ws ++ ([("(" : Str)] : List Str)) .other (.inl rfl)
      refine ⟨.other, ?_⟩
      rw [cps_app, cps_app]
      simp only [List.append_assoc]
      rw [lex_open, e, lex_close]
      congr 1
      simp
    · rw [if_neg c, if_neg (by rw [Kd.rk_rank]; omega)]
      exact L rest ws b hb
theorem lexM_wr {d : Nat} {t : T} (h : TOk NameOk d t) : lexM (wr 0 t) = some (ww 0 t) := by
  obtain ⟨b, e⟩ := lx_wr d 0 h [] [] .blank (.inr rfl)
  unfold lexM
  rw [List.append_nil] at e
  rw [show ((0 : Nat) : Int) = 0 from rfl] at e
  rw [e, List.nil_append]
  unfold lexGo
  rfl
end Aw

namespace Aw
open PySem L2
/-! ### the parser over the words of a written tree -/
def At (ws : List Str) : Nat → List Str → Prop
  | _, [] => True
  | i, a :: r => wd ws i = a ∧ At ws (i + 1) r
theorem At.left {ws : List Str} : ∀ {A B : List Str} {i : Nat}, At ws i (A ++ B) → At ws i A
  | [], _, _, _ => True.intro
  | _ :: A, B, _, h => ⟨h.1, At.left (A := A) (B := B) h.2⟩
theorem At.right {ws : List Str} : ∀ {A B : List Str} {i : Nat}, At ws i (A ++ B) → At ws (i + A.length) B
  | [], _, _, h => h
  | a :: A, B, i, h => by
    have q := At.right (A := A) (B := B) h.2
    rwa [show i + 1 + A.length = i + (a :: A).length by rw [List.length_cons]; omega] at q
theorem At.self (pre : List Str) : ∀ (W : List Str), At (pre ++ W) pre.length W
  | [] => True.intro
  | a :: r => by
    refine ⟨?_, ?_⟩
    · unfold wd
      rw [List.getD_eq_getElem?_getD, List.getElem?_append_right (Nat.le_refl _), Nat.sub_self]
      rfl
    · have q := At.self (pre ++ [a]) r
      rw [List.append_assoc, List.length_append, List.length_singleton] at q
      exact q
def ks : Nat → List Kd
  | 0 => kinds
  | 1 => kinds
  | 2 => [.least, .sum]
  | 3 => [.sum]
  | _ => []
theorem ks_split {f : Nat} {k : Kd} (h : f ≤ k.rk) : ∃ pre, ks f = pre ++ k :: ks (k.rk + 1) ∧ ∀ k' ∈ pre, f ≤ k'.rk := by
  match f, k, h with
  | 0, .most, _ => exact ⟨[], rfl, fun _ h => by cases h⟩
  | 0, .least, _ => exact ⟨[.most], rfl, fun _ h => Nat.zero_le _⟩
  | 0, .sum, _ => exact ⟨[.most, .least], rfl, fun _ h => Nat.zero_le _⟩
  | 1, .most, _ => exact ⟨[], rfl, fun _ h => by cases h⟩
  | 1, .least, _ => exact ⟨[.most], rfl, fun k _ => by cases k <;> decide⟩
  | 1, .sum, _ => exact ⟨[.most, .least], rfl, fun k _ => by cases k <;> decide⟩
  | 2, .most, h => exact absurd h (by decide)
  | 2, .least, _ => exact ⟨[], rfl, fun _ h => by cases h⟩
  | 2, .sum, _ => exact ⟨[.least], rfl, fun k h => by rw [List.mem_singleton.mp h]; decide⟩
  | 3, .most, h => exact absurd h (by decide)
  | 3, .least, h => exact absurd h (by decide)
  | 3, .sum, _ => exact ⟨[], rfl, fun _ h => by cases h⟩
  | n + 4, k, h => cases k <;> exact absurd h (by simp [Kd.rk])
theorem ks_ge {f : Nat} : ∀ {k : Kd}, k ∈ ks f → f ≤ k.rk := by
  intro k h
  match f, h with
  | 0, _ => exact Nat.zero_le _
  | 1, _ => cases k <;> decide
  | 2, h => revert h; cases k <;> decide
  | 3, h => revert h; cases k <;> decide
  | n + 4, h => exact absurd h (by simp [ks])
theorem sg_inj {a b : Kd} (h : a.sg = b.sg) : a = b := by
  revert h
  cases a <;> cases b <;> decide +kernel
theorem chain_stop {ws : List Str} {F : Nat → Option (T × Nat)} {sg : Str} {n : Nat} {ts : List T} {j : Nat} (h : ¬ wd ws j = sg) : chainM ws F sg (n + 1) ts j = some (ts, j) := by
  unfold chainM
  rw [if_neg h]
theorem lift_pre {ws : List Str} {P : Nat → Option (T × Nat)} {ks' : List Kd} {i j : Nat} {t : T} (h : levelM ws P ks' i = some (t, j)) : ∀ {pre : List Kd}, (∀ k ∈ pre, ¬ wd ws j = k.sg) → levelM ws P (pre ++ ks') i = some (t, j)
  | [], _ => h
  | k :: r, hp => by
    have ih := lift_pre h (pre := r) fun k hk => hp k (List.mem_cons_of_mem _ hk)
    rw [List.cons_append]
    unfold levelM
    rw [ih]
    dsimp only
    rw [chain_stop (hp k List.mem_cons_self)]
    rfl
/-- a piece that is no sum, least or most, or stands in brackets -/
theorem lift_piece {ws : List Str} {P : Nat → Option (T × Nat)} {f i j : Nat} {t : T} (h : P i = some (t, j)) (hn : ∀ k : Kd, f ≤ k.rk → ¬ wd ws j = k.sg) : levelM ws P (ks f) i = some (t, j) := by
  have q : levelM ws P [] i = some (t, j) := by unfold levelM; exact h
  have r := lift_pre q (pre := ks f) fun k hk => hn k (ks_ge hk)
  rwa [List.append_nil] at r
/-- the rest of a chain -/
theorem chain_all {ws : List Str} {F : Nat → Option (T × Nat)} {k : Kd} {f : Nat} : ∀ (r : List T) (acc : List T) (j n : Nat), r.length < n → At ws j (wwr f k.sg r) → ¬ wd ws (j + (wwr f k.sg r).length) = k.sg →
    (∀ t ∈ r, ∀ i, At ws i (ww f t) → (wd ws (i + (ww f t).length) = k.sg ∨ i + (ww f t).length = j + (wwr f k.sg r).length) → F i = some (t, i + (ww f t).length)) →
    chainM ws F k.sg n acc j = some (acc ++ r, j + (wwr f k.sg r).length)
  | [], acc, j, n, hn, _, he, _ => by
    cases n with
    | zero => exact absurd hn (Nat.lt_irrefl 0)
    | succ n =>
      rw [List.append_nil]
      exact chain_stop he
  | t :: r, acc, j, n, hn, ha, he, hF => by
    cases n with
    | zero => exact absurd hn (Nat.not_lt_zero _)
    | succ n =>
      have ha' : wd ws j = k.sg ∧ At ws (j + 1) (ww f t ++ wwr f k.sg r) := by unfold wwr at ha; exact ha
      have el : (wwr f k.sg (t :: r)).length = 1 + (ww f t).length + (wwr f k.sg r).length := by
        conv => lhs; unfold wwr
        rw [List.length_cons, List.length_append]; omega
      rw [el] at he hF ⊢
      have e1 : F (j + 1) = some (t, j + 1 + (ww f t).length) := by
        refine hF t List.mem_cons_self (j + 1) ha'.2.left ?_
        cases r with
        | nil => right; show _ = j + (1 + (ww f t).length + 0); omega
        | cons u r =>
          left
          have q := ha'.2.right
          unfold wwr at q
          exact q.1
      unfold chainM
      rw [if_pos ha'.1, e1]
      dsimp only
      have ih := chain_all r (acc ++ [t]) (j + 1 + (ww f t).length) n (by rw [List.length_cons] at hn; omega) ha'.2.right (by
        rwa [show j + 1 + (ww f t).length + (wwr f k.sg r).length = j + (1 + (ww f t).length + (wwr f k.sg r).length) by omega]) (fun u hu i h1 h2 => hF u (List.mem_cons_of_mem _ hu) i h1 (by
        rwa [show j + 1 + (ww f t).length + (wwr f k.sg r).length = j + (1 + (ww f t).length + (wwr f k.sg r).length) by omega] at h2))
      rw [ih, List.append_assoc]
      congr 2
      omega
theorem name_not {s : Str} (h : NameOk s) : ¬ s = "(" ∧ ¬ s = "[" := by
  constructor
  · intro e
    subst e
    exact absurd h (by unfold NameOk; decide +kernel)
  · intro e
    subst e
    exact absurd h (by unfold NameOk; decide +kernel)
/-- a join whose pieces are read, read at its own level -/
theorem join_level {ws : List Str} {P : Nat → Option (T × Nat)} {k : Kd} {ts : List T} {i : Nat} (h2 : 2 ≤ ts.length) (h8 : ts.length ≤ 8) (hl : ts.length ≤ ws.length) (ha : At ws i (wws (k.rk + 1) k.sg ts))
    (hn : ∀ k' : Kd, k.rk ≤ k'.rk → ¬ wd ws (i + (wws (k.rk + 1) k.sg ts).length) = k'.sg)
    (hF : ∀ t ∈ ts, ∀ i, At ws i (ww (k.rk + 1) t) → (∀ k' : Kd, k.rk + 1 ≤ k'.rk → ¬ wd ws (i + (ww (k.rk + 1) t).length) = k'.sg) → levelM ws P (ks (k.rk + 1)) i = some (t, i + (ww (k.rk + 1) t).length)) :
    levelM ws P (k :: ks (k.rk + 1)) i = some (.join k ts, i + (wws (k.rk + 1) k.sg ts).length) := by
  cases ts with
  | nil => exact absurd h2 (by simp)
  | cons t r =>
    have el : (wws (k.rk + 1) k.sg (t :: r)).length = (ww (k.rk + 1) t).length + (wwr (k.rk + 1) k.sg r).length := by
      conv => lhs; unfold wws
      rw [List.length_append]
    have ha' : At ws i (ww (k.rk + 1) t ++ wwr (k.rk + 1) k.sg r) := by unfold wws at ha; exact ha
    rw [el] at hn ⊢
    have other : ∀ {j : Nat}, wd ws j = k.sg → ∀ k' : Kd, k.rk + 1 ≤ k'.rk → ¬ wd ws j = k'.sg := fun e k' hk q => by
      have z := sg_inj (e.symm.trans q)
      subst z
      omega
    have e1 : levelM ws P (ks (k.rk + 1)) i = some (t, i + (ww (k.rk + 1) t).length) := by
      refine hF t List.mem_cons_self i ha'.left ?_
      cases r with
      | nil => exact absurd h2 (by simp)
      | cons u r =>
        have q := ha'.right
        unfold wwr at q
        exact other q.1
    unfold levelM
    rw [e1]
    dsimp only
    have c := chain_all (F := levelM ws P (ks (k.rk + 1))) (k := k) (f := k.rk + 1) r [t] (i + (ww (k.rk + 1) t).length) (ws.length + 1) (by rw [List.length_cons] at hl; omega) ha'.right (by
      rw [Nat.add_assoc]; exact hn k (Nat.le_refl _)) (fun u hu i' h1 h2' => hF u (List.mem_cons_of_mem _ hu) i' h1 (by
        rcases h2' with e | e
        · exact other e
        · rw [e, Nat.add_assoc]
          exact fun k' hk => hn k' (by omega)))
    rw [c]
    dsimp only
    have ej : joinM k ([t] ++ r) = some (.join k (t :: r)) := by
      unfold joinM
      rw [if_neg (by show ¬ 8 < (t :: r).length; omega)]
      cases r with
      | nil => exact absurd h2 (by simp)
      | cons u r => rfl
    rw [ej, Nat.add_assoc]
    rfl
theorem parse_wr {ws : List Str} : ∀ (d D : Nat) {t : T} (f i : Nat), d < D → TOk NameOk d t → ws.length ≥ 3 ∨ d = 0 → At ws i (ww f t) → (∀ k : Kd, f ≤ k.rk → ¬ wd ws (i + (ww f t).length) = k.sg) → levelM ws (pieceM ws D) (ks f) i = some (t, i + (ww f t).length)
  | d, 0, _, _, _, h, _, _, _, _ => absurd h (Nat.not_lt_zero _)
  | d, D + 1, .num n, f, i, hd, h, hw, ha, hn => by
    obtain ⟨h1, h2, h3, h4, h5, h6⟩ := num_facts h.num
    unfold ww at ha hn ⊢
    refine lift_piece ?_ hn
    unfold pieceM
    rw [ha.1, if_neg h5, if_neg h6, h4, if_neg Bool.false_ne_true, h3]
    rfl
  | d, D + 1, .name s, f, i, hd, h, hw, ha, hn => by
    have h1 := h.name
    obtain ⟨h5, h6⟩ := name_not h1
    unfold ww at ha hn ⊢
    refine lift_piece ?_ hn
    unfold pieceM
    rw [ha.1, if_neg h5, if_neg h6, if_pos (show nameM s = true from h1)]
    rfl
  | 0, D + 1, .gate _ _ _, _, _, _, h, _, _, _ => h.elim
  | 0, D + 1, .join _ _, _, _, _, h, _, _, _ => h.elim
  | d + 1, D + 1, .gate s n t, f, i, hd, h, hw, ha, hn => by
    obtain ⟨h1, h2, h3, h4⟩ := h
    unfold ww at ha hn ⊢
    obtain ⟨a1, a2, a3, a4, a5⟩ := ha
    have ih := parse_wr d D (t := t) 4 (i + 1 + 1 + 1 + 1) (by omega) h4 (hw.elim .inl fun z => absurd z (Nat.succ_ne_zero d)) a5 (fun k hk => by cases k <;> exact absurd hk (by decide))
    refine lift_piece ?_ hn
    unfold pieceM
    rw [a1, if_neg (by decide +kernel), if_pos rfl]
    unfold gateM
    rw [a2, if_pos (show nameM s = true from h1), show wd ws (i + 1 + 1) = tx n from a3, bound_facts ⟨h2, h3⟩]
    dsimp only
    rw [if_pos (show wd ws (i + 1 + 2) = "]" from a4)]
    have e : pieceM ws D (i + 1 + 3) = some (t, i + 1 + 1 + 1 + 1 + (ww 4 t).length) := by
      unfold levelM ks at ih
      exact ih
    rw [e]
    refine congrArg (fun j => some (T.gate s n t, j)) ?_
    simp only [List.length_cons]
    omega
  | d + 1, D + 1, .join k ts, f, i, hd, h, hw, ha, hn => by
    obtain ⟨h2, h3, h4⟩ := h
    have hl : ts.length ≤ ws.length := by
      rcases hw with z | z
      · omega
      · cases z
    unfold ww at ha hn ⊢
    by_cases c : k.rk < f
    · rw [if_pos c] at ha hn ⊢
      obtain ⟨a1, a2⟩ := ha
      have aB := a2.left
      have aC := a2.right.1
      refine lift_piece ?_ hn
      unfold pieceM
      rw [a1, if_pos rfl]
      have J := join_level (P := pieceM ws D) (k := k) h2 (by omega) hl aB (fun k' _ e => by
        rw [aC] at e
        cases k' <;> exact absurd e (by decide +kernel)) (fun t ht i' h1 h2' => parse_wr d D (k.rk + 1) i' (by omega) (h4 t ht) (hw.elim .inl fun z => absurd z (Nat.succ_ne_zero d)) h1 h2')
      obtain ⟨pre, ep, hp⟩ := ks_split (f := 0) (k := k) (Nat.zero_le _)
      have Lv := lift_pre J (pre := pre) (fun k' _ e => by
        rw [aC] at e
        cases k' <;> exact absurd e (by decide +kernel))
      rw [← ep] at Lv
      rw [show levelM ws (pieceM ws D) kinds (i + 1) = some (.join k ts, i + 1 + (wws (k.rk + 1) k.sg ts).length) from Lv]
      dsimp only
      rw [if_pos aC]
      congr 2
      rw [List.length_cons, List.length_append, List.length_singleton]
      omega
    · rw [if_neg c] at ha hn ⊢
      have J := join_level (P := pieceM ws (D + 1)) (k := k) h2 (by omega) hl ha (fun k' hk => hn k' (by omega)) (fun t ht i' h1 h2' => parse_wr d (D + 1) (k.rk + 1) i' (by omega) (h4 t ht) (hw.elim .inl fun z => absurd z (Nat.succ_ne_zero d)) h1 h2')
      obtain ⟨pre, ep, hp⟩ := ks_split (f := f) (k := k) (by omega)
      rw [ep]
      exact lift_pre J fun k' hk => hn k' (hp k' hk)
def WB : Nat → Nat
  | 0 => 1
  | d + 1 => 3 * WB d + 4
theorem WB_one : ∀ d, 1 ≤ WB d
  | 0 => Nat.le_refl 1
  | d + 1 => by show 1 ≤ 3 * WB d + 4; omega
theorem wwr_len {f B : Nat} {sg : Str} : ∀ {r : List T}, (∀ t ∈ r, (ww f t).length ≤ B) → (wwr f sg r).length ≤ r.length * (B + 1)
  | [], _ => Nat.zero_le _
  | t :: r, h => by
    unfold wwr
    have ih := wwr_len (sg := sg) (r := r) fun u hu => h u (List.mem_cons_of_mem _ hu)
    have h1 := h t List.mem_cons_self
    rw [List.length_cons, List.length_append, List.length_cons, Nat.add_mul]
    omega
theorem wws_len {f B : Nat} {sg : Str} {t : T} {r : List T} (h : ∀ u ∈ t :: r, (ww f u).length ≤ B) : (wws f sg (t :: r)).length ≤ B + r.length * (B + 1) := by
  unfold wws
  have h1 := h t List.mem_cons_self
  have h2 := wwr_len (sg := sg) (r := r) fun u hu => h u (List.mem_cons_of_mem _ hu)
  rw [List.length_append]
  omega
theorem ww_len : ∀ (d : Nat) {t : T} (f : Nat), TOk NameOk d t → (ww f t).length ≤ WB d
  | d, .num n, f, h => by unfold ww; exact WB_one d
  | d, .name n, f, h => by unfold ww; exact WB_one d
  | 0, .gate _ _ _, _, h => h.elim
  | 0, .join _ _, _, h => h.elim
  | d + 1, .gate s n t, f, h => by
    have e := ww_len d 4 h.2.2.2
    unfold ww
    show _ ≤ 3 * WB d + 4
    simp only [List.length_cons]
    omega
  | d + 1, .join k ts, f, h => by
    obtain ⟨h1, h2, h3⟩ := h
    have e : (wws (k.rk + 1) k.sg ts).length ≤ 3 * WB d + 2 := by
      cases ts with
      | nil => simp at h1
      | cons t r =>
        have q := wws_len (sg := k.sg) (t := t) (r := r) fun u hu => ww_len d (k.rk + 1) (h3 u hu)
        have q2 : r.length * (WB d + 1) ≤ 2 * (WB d + 1) := Nat.mul_le_mul_right _ (by rw [List.length_cons] at h2; omega)
        omega
    unfold ww
    show _ ≤ 3 * WB d + 4
    split
    · rw [List.length_cons, List.length_append, List.length_singleton]; omega
    · omega
theorem ww_pos : ∀ {t : T} (d f : Nat), TOk NameOk d t → 1 ≤ (ww f t).length
  | .num _, d, f, _ => by unfold ww; exact Nat.le_refl 1
  | .name _, d, f, _ => by unfold ww; exact Nat.le_refl 1
  | .gate _ _ _, d, f, _ => by unfold ww; rw [List.length_cons]; omega
  | .join k ts, 0, f, h => h.elim
  | .join k ts, d + 1, f, h => by
    have e : 1 ≤ (wws (k.rk + 1) k.sg ts).length := by
      obtain ⟨h1, h2, h3⟩ := h
      match ts, h1 with
      | t :: u :: r, _ =>
        unfold wws wwr
        rw [List.length_append, List.length_cons]
        omega
    unfold ww
    split
    · rw [List.length_cons]; omega
    · exact e
theorem ww_three {t : T} (d f : Nat) (h : TOk NameOk (d + 1) t) : TOk NameOk 0 t ∨ 3 ≤ (ww f t).length := by
  cases t with
  | num n => exact .inl h
  | name n => exact .inl h
  | gate s n t =>
    right
    unfold ww
    simp only [List.length_cons]
    omega
  | join k ts =>
    right
    obtain ⟨h1, h2, h3⟩ := h
    have e : 3 ≤ (wws (k.rk + 1) k.sg ts).length := by
      match ts, h1, h3 with
      | t :: u :: r, _, h3 =>
        have q1 := ww_pos d (k.rk + 1) (h3 t List.mem_cons_self)
        have q2 := ww_pos d (k.rk + 1) (h3 u (List.mem_cons_of_mem _ List.mem_cons_self))
        unfold wws wwr
        rw [List.length_append, List.length_cons, List.length_append]
        omega
    unfold ww
    split
    · rw [List.length_cons, List.length_append]; omega
    · exact e
theorem sg_ne (k : Kd) : ¬ Str.empty = k.sg := by cases k <;> decide +kernel
theorem read_wr {t : T} (h : TOk NameOk 2 t) : readM (wr 0 t) = some t := by
  have l1 := wr_len (fun s h => (name_facts h).2.1) 2 0 h
  have l2 : (ww 0 t).length ≤ 25 := ww_len 2 0 h
  unfold readM
  rw [if_neg (by have : LB 2 = 134 := rfl; omega), lexM_wr h]
  dsimp only
  rw [if_neg (by omega)]
  have ha : At (ww 0 t) 0 (ww 0 t) := At.self [] (ww 0 t)
  have he : wd (ww 0 t) (0 + (ww 0 t).length) = Str.empty := wd_end (by omega)
  have P : levelM (ww 0 t) (pieceM (ww 0 t) 3) (ks 0) 0 = some (t, 0 + (ww 0 t).length) := by
    rcases ww_three 1 0 h with q | q
    · exact parse_wr 0 3 0 0 (by decide) q (.inr rfl) ha fun k _ e => sg_ne k (he.symm.trans e)
    · exact parse_wr 2 3 0 0 (by decide) h (.inl q) ha fun k _ e => sg_ne k (he.symm.trans e)
  rw [show levelM (ww 0 t) (pieceM (ww 0 t) 3) kinds 0 = _ from P]
  dsimp only
  rw [if_pos he]
end Aw

namespace Aw
open PySem L2
/-! ### any tree that a text is read to: its depth, a bound for its text -/
mutual
def WF : T → Prop
  | .num n => 0 ≤ n ∧ n ≤ 30
  | .name _ => True
  | .gate _ b t => (0 ≤ b ∧ b ≤ 30) ∧ WF t
  | .join _ ts => 0 < ts.length ∧ WFs ts
def WFs : List T → Prop
  | [] => True
  | t :: r => WF t ∧ WFs r
end
mutual
def dep : T → Nat
  | .num _ => 0
  | .name _ => 0
  | .gate _ _ t => dep t + 1
  | .join _ ts => deps ts + 1
def deps : List T → Nat
  | [] => 0
  | t :: r => max (dep t) (deps r)
end
mutual
def Sz : T → Nat
  | .num _ => 2
  | .name s => s.length
  | .gate s _ t => s.length + 8 + Sz t
  | .join _ ts => 2 + Szs ts
def Szs : List T → Nat
  | [] => 0
  | t :: r => Sz t + 3 + Szs r
end
theorem WFs.mem : ∀ {ts : List T} {t : T}, WFs ts → t ∈ ts → WF t
  | _ :: _, _, h, .head _ => h.1
  | _ :: _, _, h, .tail _ m => WFs.mem h.2 m
theorem WFs.of : ∀ {ts : List T}, (∀ t ∈ ts, WF t) → WFs ts
  | [], _ => True.intro
  | t :: r, h => ⟨h t List.mem_cons_self, WFs.of fun u hu => h u (List.mem_cons_of_mem _ hu)⟩
theorem dep_mem : ∀ {ts : List T} {t : T}, t ∈ ts → dep t ≤ deps ts
  | _ :: _, _, .head _ => Nat.le_max_left _ _
  | _ :: _, _, .tail _ m => Nat.le_trans (dep_mem m) (Nat.le_max_right _ _)
theorem deps_le {n : Nat} : ∀ {ts : List T}, (∀ t ∈ ts, dep t ≤ n) → deps ts ≤ n
  | [], _ => Nat.zero_le _
  | t :: r, h => Nat.max_le.mpr ⟨h t List.mem_cons_self, deps_le fun u hu => h u (List.mem_cons_of_mem _ hu)⟩
theorem Sz_mem : ∀ {ts : List T} {t : T}, t ∈ ts → Sz t ≤ Szs ts
  | t :: r, _, .head _ => by show Sz t ≤ Sz t + 3 + Szs r; omega
  | t :: r, u, .tail _ m => by have := Sz_mem m; show Sz u ≤ Sz t + 3 + Szs r; omega
theorem Szs_take : ∀ (ts : List T) (i : Nat), Szs (ts.take i) ≤ Szs ts
  | [], i => by simp
  | t :: r, 0 => Nat.zero_le _
  | t :: r, i + 1 => by have := Szs_take r i; show Sz t + 3 + Szs (r.take i) ≤ Sz t + 3 + Szs r; omega
mutual
theorem wr_Sz : ∀ (t : T) (f : Int), WF t → (wr f t).length ≤ Sz t
  | .num n, f, h => tx_len h
  | .name s, f, h => Nat.le_refl _
  | .gate s b t, f, h => by
    have e := wr_Sz t 4 h.2
    have e2 := tx_len h.1
    unfold wr Sz
    rw [len_app', len_app', len_app', len_app', len_app']
    have c1 : ("[" : Str).length = 1 := by decide +kernel
    have c2 : (" " : Str).length = 1 := by decide +kernel
    have c3 : ("] " : Str).length = 2 := by decide +kernel
    omega
  | .join k ts, f, h => by
    have e := wrs_Sz ts k.sep (k.rank + 1) (sep_len k) h.2
    have c1 : ("(" : Str).length = 1 := by decide +kernel
    have c2 : (")" : Str).length = 1 := by decide +kernel
    unfold wr Sz
    split
    · rw [len_app', len_app']; omega
    · omega
theorem wrs_Sz : ∀ (ts : List T) (sep : Str) (f : Int), sep.length = 3 → WFs ts → (wrs sep f ts).length ≤ Szs ts
  | [], _, _, _, _ => Nat.le_refl _
  | [t], sep, f, _, h => by
    have e := wr_Sz t f h.1
    rw [wrs_one]
    show _ ≤ Sz t + 3 + 0
    omega
  | t :: u :: r, sep, f, hs, h => by
    have e := wr_Sz t f h.1
    have e2 := wrs_Sz (u :: r) sep f hs h.2
    rw [wrs_two, len_app', len_app', hs]
    show _ ≤ Sz t + 3 + Szs (u :: r)
    omega
end
theorem wrs_join (sep : Str) (f : Int) : ∀ ts : List T, wrs sep f ts = Str.join sep (ts.map (wr f))
  | [] => rfl
  | [t] => by rw [wrs_one]; rfl
  | t :: u :: r => by
    rw [wrs_two, wrs_join sep f (u :: r)]
    rfl
theorem sum_Sz (f : Int) : ∀ (ts : List T), WFs ts → ((ts.map (wr f)).map (·.length)).sum + ts.length * 3 ≤ Szs ts
  | [], _ => Nat.le_refl _
  | t :: r, h => by
    have e := sum_Sz f r h.2
    have e1 := wr_Sz t f h.1
    simp only [List.map_cons, List.sum_cons, List.length_cons]
    show _ ≤ Sz t + 3 + Szs r
    omega
/-- the kind in which a piece stands: a gate, or a sum, a least, a most -/
def kfs : Option Kd → Str
  | none => "gate"
  | some k => k.nm
def kff : Option Kd → Int
  | none => 4
  | some k => k.rank + 1
def kinds_of : T → Str
  | .num _ => "number"
  | .name _ => "name"
  | .gate _ _ _ => "gate"
  | .join k _ => k.nm
def bare : Option Kd → List Str
  | none => ["number", "name", "gate"]
  | some .sum => ["number", "name", "gate"]
  | some .least => ["number", "name", "gate", "sum"]
  | some .most => ["number", "name", "gate", "sum", "least"]
/-- what needs no brackets there -/
theorem bare_iff (o : Option Kd) (t : T) : wr (kff o) t = if kinds_of t ∈ bare o then wr 0 t else "(" ++ wr 0 t ++ ")" := by
  have lit : ∀ s ∈ ([("number" : Str), "name", "gate"] : List Str), s ∈ bare o := by
    intro s hs
    cases o with
    | none => exact hs
    | some k => cases k <;> (simp only [bare, List.mem_cons] at hs ⊢; rcases hs with h | h | h | h <;> simp [h] at *)
  cases t with
  | num n => rw [if_pos (lit _ (by simp [kinds_of]))]; unfold wr; rfl
  | name n => rw [if_pos (lit _ (by simp [kinds_of]))]; unfold wr; rfl
  | gate s b t => rw [if_pos (lit _ (by simp [kinds_of]))]; conv => lhs; unfold wr
                  conv => rhs; unfold wr
  | join k ts =>
    have e : (k.nm ∈ bare o) ↔ ¬ k.rank < kff o := by
      revert k
      cases o with
      | none => intro k; cases k <;> decide +kernel
      | some k' => intro k; cases k <;> cases k' <;> decide +kernel
    have ek : kinds_of (.join k ts) = k.nm := rfl
    rw [ek]
    have e0 : wr 0 (.join k ts) = wrs k.sep (k.rank + 1) ts := by
      unfold wr
      rw [if_neg (by cases k <;> decide)]
    rw [e0]
    conv => lhs; unfold wr
    by_cases c : k.rank < kff o
    · rw [if_pos c, if_neg (fun z => e.mp z c)]
    · rw [if_neg c, if_pos (e.mpr c)]
theorem ok_WF : ∀ (d : Nat) {t : T}, TOk NameOk d t → WF t ∧ dep t ≤ d ∧ Sz t ≤ 30 * 4 ^ d
  | d, .num n, h => ⟨h.num, Nat.zero_le _, by
      have := Nat.pow_le_pow_right (n := 4) (by decide) (Nat.zero_le d)
      show 2 ≤ 30 * 4 ^ d
      omega⟩
  | d, .name s, h => ⟨True.intro, Nat.zero_le _, by
      have := Nat.pow_le_pow_right (n := 4) (by decide) (Nat.zero_le d)
      have := (name_facts h.name).2.1
      show s.length ≤ 30 * 4 ^ d
      omega⟩
  | 0, .gate _ _ _, h => h.elim
  | 0, .join _ _, h => h.elim
  | d + 1, .gate s b t, h => by
    obtain ⟨h1, h2, h3, h4⟩ := h
    obtain ⟨a, b', c⟩ := ok_WF d h4
    have l := (name_facts h1).2.1
    have p := Nat.pow_le_pow_right (n := 4) (by decide) (Nat.zero_le d)
    refine ⟨⟨⟨by omega, h3⟩, a⟩, Nat.succ_le_succ b', ?_⟩
    show s.length + 8 + Sz t ≤ 30 * 4 ^ (d + 1)
    rw [Nat.pow_succ]
    omega
  | d + 1, .join k ts, h => by
    obtain ⟨h1, h2, h3⟩ := h
    have p := Nat.pow_le_pow_right (n := 4) (by decide) (Nat.zero_le d)
    refine ⟨⟨by omega, WFs.of fun t ht => (ok_WF d (h3 t ht)).1⟩, Nat.succ_le_succ (deps_le fun t ht => (ok_WF d (h3 t ht)).2.1), ?_⟩
    have g : ∀ (l : List T), (∀ t ∈ l, TOk NameOk d t) → Szs l ≤ l.length * (30 * 4 ^ d + 3) := by
      intro l
      induction l with
      | nil => intro _; exact Nat.zero_le _
      | cons t r ih =>
        intro hl
        have e1 := (ok_WF d (hl t List.mem_cons_self)).2.2
        have e2 := ih fun u hu => hl u (List.mem_cons_of_mem _ hu)
        show Sz t + 3 + Szs r ≤ _
        rw [List.length_cons, Nat.add_mul, Nat.one_mul]
        omega
    have e := g ts h3
    have e2 : ts.length * (30 * 4 ^ d + 3) ≤ 3 * (30 * 4 ^ d + 3) := Nat.mul_le_mul_right _ h2
    show 2 + Szs ts ≤ 30 * 4 ^ (d + 1)
    rw [Nat.pow_succ]
    omega
end Aw

namespace Aw
open PySem L2 NdefX LamX
/-! ### what is made while the program runs, and called elsewhere: a thing that may be called, told by what the base holds -/
/-- a thing that may be called: Pre is what must be tracked at a call -/
structure Clo (P : Program) (w : World) (K : PySem.W.Frag) (mg : Str → Option Value) (base : Heap) (CX : CXT) (k : Nat) (f : Addr) (Pre : Hp → Prop) (sp : Sp) : Prop where
  fn : ∀ (h : Heap) (H : Hp), (∀ b o, base.get? b = some o → h.get? b = some o) → HOk P w H h → Pre H → PySem.W.FnAt f h
  run : ∀ (A : Around) (outer : List Env) (s : Shared) (H : Hp) (us : List Value) (vs : List V) (Q : VK) (E : XK), Room k A → Env0 P w K mg base A outer s H → Pre H → Vals vs us → sp vs H Q E →
    codeAny (model P w) A (.call (.ref f) ⟨us, []⟩) (CR CX outer P w H s Q E) s
theorem Clo.imp {P : Program} {w : World} {K : PySem.W.Frag} {mg : Str → Option Value} {base : Heap} {CX : CXT} {k : Nat} {f : Addr} {Pre : Hp → Prop} {sp sp' : Sp} (c : Clo P w K mg base CX k f Pre sp) (h : ∀ vs H Q E, sp' vs H Q E → sp vs H Q E) : Clo P w K mg base CX k f Pre sp' :=
  ⟨c.fn, fun A outer s H us vs Q E hr e0 hp r q => c.run A outer s H us vs Q E hr e0 hp r (h _ _ _ _ q)⟩
theorem Clo.mono {P : Program} {w : World} {K : PySem.W.Frag} {mg : Str → Option Value} {base : Heap} {CX : CXT} {k j : Nat} {f : Addr} {Pre : Hp → Prop} {sp : Sp} (c : Clo P w K mg base CX k f Pre sp) (h : k ≤ j) : Clo P w K mg base CX j f Pre sp :=
  ⟨c.fn, fun A outer s H us vs Q E hr => c.run A outer s H us vs Q E (hr.mono h)⟩
section
variable {X : Cx} {CX : CXT} {k i : Nat} {f : Addr} {Pre : Hp → Prop} {sp : Sp} {E : XK} {x : Str} {p pos : Pos} {e : Expr} {es : List Expr} {t : L2.TA}
/-- a call's end, whatever base it was proved over -/
theorem ep_of {pins : List (Addr × Obj)} {σ : L2.St} {H : Hp} {s : Shared} {Q : VK} {us : List Value} {g : Addr} (hx : Passes CX X E) (I : Inv X pins σ H s) (h : codeAny (model X.prog X.w) X.A (.call (.ref g) ⟨us, []⟩) (CR CX X.stack X.prog X.w H s Q E) s) :
    wpAny (model X.prog X.w) X.A (call (.ref g) us) (EP X pins σ Q) X.xe s := by
  refine wpAny_call (codeAny_mono h fun r s2 hq => ?_)
  match r, hq with
  | .error er, hq => exact hx pins σ H s er s2 I hq
  | .ok (.ret u), hq => exact I.after hq
  | .ok .next, hq => exact False.elim hq
  | .ok .brk, hq => exact False.elim hq
  | .ok .cont, hq => exact False.elim hq
/-- g(e, ..), g a local name that holds such a thing -/
def tClo (i : Nat) (f : Addr) (Pre : Hp → Prop) (sp : Sp) (E : XK) (t : L2.TA) : TE := fun σ H Q => σ[i]? = some (some (.ref f)) ∧ Pre H ∧ t σ H fun vs H1 => Pre H1 ∧ sp vs H1 Q E
theorem pe_clo (F : Clo X.prog X.w X.K X.mg X.base CX k f Pre sp) (hr : Room k X.A) (hx : Passes CX X E) (hN : X.N[i]? = some x) (hv : Vis X.env.scope x) (ha : PA X (e :: es) t)
    (hd : (x == ("__debug__" : Str)) = false := by decide) (hcd : (x == ("__classdict__" : Str)) = false := by decide)
    (he : starEach (e :: es) X.env = (false, eval e X.env) :: starEach es X.env := by rfl) (hpl : (backTo pos (starEach es X.env)).any (·.1) = false := by rfl) :
    PE X (.Call (.Name x p) (e :: es) [] pos) (tClo i f Pre sp E t) := by
  constructor
  intro pins s σ H Q I h
  obtain ⟨hs, hp, ht⟩ := h
  refine wpAny_Call_Name_kw (thn ((pe_var (pos := p) hN hv hd hcd).run pins s σ H (fun v H1 => v = .ref f ∧ H1 = H) I ⟨_, hs, rfl, rfl⟩) fun u sA ⟨v, HA, IA, rA, qA⟩ => ?_)
  obtain ⟨rfl, rfl⟩ := qA
  cases rA
  refine PySem.W.callWith_F (first := []) (F.fn _ _ IA.bk IA.hok hp) (thn (ha.run pos pins sA σ _ _ IA ht) fun us sB ⟨vs, HB, IB, rB, hpB, qB⟩ => ⟨F.fn _ _ IB.bk IB.hok hpB, ?_⟩) he hpl
  exact ep_of hx IB (F.run X.A X.stack sB HB us vs Q E hr IB.env0 hpB rB qB)
end
/-! ### a wider base: what is there now, untracked, and no frame's -/
section
variable {X : Cx} {pins : List (Addr × Obj)} {σ : L2.St} {H : Hp} {s : Shared}
theorem up_base (I : Inv X pins σ H s) (L : List Addr) (hL : ∀ b ∈ L, H b = none ∧ b ∉ frs X.stack) :
    ∃ B : Heap, (∀ b o, X.base.get? b = some o → B.get? b = some o) ∧ (∀ b ∈ L, B.get? b = s.heap.get? b) ∧ Env0 X.prog X.w X.K X.mg B X.A X.stack s H := by
  have e0 := I.env0
  obtain ⟨hide, hh⟩ : ∃ l : List Addr, l = (List.range s.heap.objs.size).filter fun b => !((X.base.get? b).isSome || decide (b ∈ L)) := ⟨_, rfl⟩
  have no : ∀ b, b ∈ hide → X.base.get? b = none ∧ b ∉ L := fun b hb => by
    rw [hh] at hb
    have z := (List.mem_filter.mp hb).2
    simp only [Bool.not_eq_true', Bool.or_eq_false_iff, decide_eq_false_iff_not] at z
    exact ⟨by simpa using z.1, z.2⟩
  have yes : ∀ b o, s.heap.get? b = some o → X.base.get? b = none → b ∉ L → b ∈ hide := fun b o q h1 h2 => by
    rw [hh]
    exact List.mem_filter.mpr ⟨List.mem_range.mpr (Heap.lt_size q), by simp [h1, h2]⟩
  have sub : ∀ b o, X.base.get? b = some o → (PySem.W.hideAll s.heap hide).get? b = some o := fun b o q => PySem.W.hideAll_get hide (e0.bs b o q).1 fun hm => by rw [(no b hm).1] at q; cases q
  have back : ∀ b o, (PySem.W.hideAll s.heap hide).get? b = some o → s.heap.get? b = some o ∧ ((∃ o', X.base.get? b = some o') ∨ b ∈ L) := fun b o q => by
    have z := PySem.W.of_hideAll hide q
    refine ⟨z, ?_⟩
    cases c : X.base.get? b with
    | some o' => exact .inl ⟨o', rfl⟩
    | none =>
      by_cases cl : b ∈ L
      · exact .inr cl
      · rw [PySem.W.hideAll_none hide (yes b o z c cl)] at q
        cases q
  refine ⟨PySem.W.hideAll s.heap hide, sub, fun b hb => ?_, ⟨e0.frames, ⟨e0.mod.kin.keeps sub, e0.mod.glob.keeps sub, ?_, e0.mod.nolimit.keeps sub⟩, fun b o q => ?_, Nat.le_of_eq (PySem.W.hideAll_size _ _), funFrames_none e0.funs fun b hb => ?_, e0.frf, e0.hok, e0.bare⟩⟩
  · cases c : s.heap.get? b with
    | some o => exact PySem.W.hideAll_get hide c fun hm => (no b hm).2 hb
    | none =>
      cases q : (PySem.W.hideAll s.heap hide).get? b with
      | none => rfl
      | some o =>
        have z := PySem.W.of_hideAll hide q
        rw [c] at z
        cases z
  · obtain ⟨mb, hm, hx⟩ := e0.mod.blt
    exact ⟨mb, hm.keeps sub, hx⟩
  · obtain ⟨z, c⟩ := back b o q
    refine ⟨z, ?_⟩
    rcases c with ⟨o', c⟩ | c
    · exact (e0.bs b o' c).2
    · exact (hL b c).1
  · cases q : (PySem.W.hideAll s.heap hide).get? b with
    | none => rfl
    | some o =>
      obtain ⟨_, c⟩ := back b o q
      rcases c with ⟨o', c⟩ | c
      · rw [(e0.funs.mem hb).1] at c
        cases c
      · exact absurd hb (hL b c).2
/-- a cell of the running def is no frame -/
theorem cell_nofr (I : Inv X pins σ H s) (hfn : ∀ y, X.fn y = true) {y : Str} {c : Addr} (e : X.env.cells.lookup y = some c) : H c = none ∧ c ∉ frs X.stack := by
  refine ⟨I.freeC y c e, fun hb => ?_⟩
  rcases List.mem_cons.mp (I.stkSub c hb) with q | q
  · exact I.cne y c e q
  · obtain ⟨_, o, ho, _⟩ := I.ok.funs.mem q
    exact absurd (Nat.lt_of_lt_of_le (Heap.lt_size ho) (I.ok.cab y c (hfn y) e)) (Nat.lt_irrefl _)
end
/-! ### what the captured cells hold, told of the base -/
structure CellsB (base : Heap) (cl : List (Str × Addr)) (fr : List Str) (ws : List (Option V)) : Prop where
  len : ws.length = fr.length
  all : ∀ y c, cl.lookup y = some c → ∃ v, base.IsCell c v
  inj : ∀ x y c, cl.lookup x = some c → cl.lookup y = some c → x = y
  has : ∀ (i : Nat) (y : Str), fr[i]? = some y → ∃ c, cl.lookup y = some c ∧ ∀ v, ws[i]? = some (some v) → ∃ u, RelV v u ∧ base.IsCell c (some u)
theorem CellsB.at_ {P : Program} {w : World} {K : PySem.W.Frag} {mg : Str → Option Value} {base : Heap} {A : Around} {outer : List Env} {s : Shared} {H : Hp} {cl : List (Str × Addr)} {fr : List Str} {ws : List (Option V)} (c : CellsB base cl fr ws) (e0 : Env0 P w K mg base A outer s H) : CellsAt cl fr ws s.heap H := by
  refine ⟨c.len, fun y a e => ?_, c.inj, fun i y e => ?_⟩
  · obtain ⟨v, o, ho, hd⟩ := c.all y a e
    exact ⟨(e0.bs a o ho).2, v, o, (e0.bs a o ho).1, hd⟩
  · obtain ⟨a, ha, hv⟩ := c.has i y e
    refine ⟨a, ha, fun v ev => ?_⟩
    obtain ⟨u, ru, o, ho, hd⟩ := hv v ev
    exact ⟨u, ru, o, (e0.bs a o ho).1, hd⟩
theorem CellsB.of {B h : Heap} {H : Hp} {cl : List (Str × Addr)} {fr : List Str} {ws : List (Option V)} (c : CellsAt cl fr ws h H) (k : ∀ y a, cl.lookup y = some a → B.get? a = h.get? a) : CellsB B cl fr ws := by
  refine ⟨c.len, fun y a e => ?_, c.inj, fun i y e => ?_⟩
  · obtain ⟨_, v, o, ho, hd⟩ := c.all y a e
    exact ⟨v, o, (k y a e).trans ho, hd⟩
  · obtain ⟨a, ha, hv⟩ := c.has i y e
    refine ⟨a, ha, fun v ev => ?_⟩
    obtain ⟨u, ru, o, ho, hd⟩ := hv v ev
    exact ⟨u, ru, o, (k y a ha).trans ho, hd⟩
/-! ### a lambda with parameters -/
structure LF where
  qual : Str
  params : Arguments
  body : Expr
  scope : Scope
  cl : List (Str × Addr)
  pm : Value
  c : Addr
  ctv : Value
abbrev LF.nf (F : LF) : NF := ⟨"<lambda>", F.qual, F.params, [], F.scope, F.cl, F.c⟩
abbrev LF.obj (F : LF) : Obj := PySem.W.kla_obj "<lambda>" F.qual F.params F.body F.scope F.cl F.pm F.c F.ctv
abbrev LPre (c : Addr) (q : Str) : Hp → Prop := fun H => H c = some (CodeO c q)
theorem clo_lam {P : Program} {w : World} {K : PySem.W.Frag} {mg : Str → Option Value} {base : Heap} {CX : CXT} {N ps fr : List Str} {F : LF} {f : Addr} {k : Nat} {sp : Sp} {ws : List (Option V)} (hf : base.get? f = some F.obj) (C : CellsB base F.cl fr ws) (S : NScope N ps fr F.scope)
    (hb : ∀ us : List Value, us.length = ps.length → bindArgs (PySem.W.kla_fn "<lambda>" F.qual F.params F.body F.scope F.cl F.pm (.ref F.c) F.ctv) ⟨us, []⟩ = pure (ps.zip us)) (len : ∀ vs H Q E, sp vs H Q E → vs.length = ps.length)
    (hbody : ∀ (A : Around) (outer : List Env) (s : Shared) (H : Hp) (vs : List V) (Q : VK) (E : XK), Room k (A.deeper (envF F.nf f s.heap.objs.size)) → LPre F.c F.qual H → sp vs H Q E →
      ∃ t, PE (ncx CX P w K mg base N F.nf f A outer s H E) F.body t ∧ t (startF N vs ws) H Q) : Clo P w K mg base CX (k + 1) f (LPre F.c F.qual) sp := by
  refine ⟨fun h H kb hok _ => ⟨_, none, _, #[], kb _ _ hf⟩, fun A outer s H us vs Q E hr e0 hp r hsp => ?_⟩
  have hl := len _ _ _ _ hsp
  have lim : s.heap.NoLimit := e0.mod.nolimit.keeps fun b o e => (e0.bs b o e).1
  have hfs : s.heap.get? f = some F.obj := (e0.bs _ _ hf).1
  refine PySem.W.kla_callFunE hr.depth hfs rfl S.co S.gen rfl (codeO_at e0.hok hp) ?_
  rw [hb us (by rw [← r.length]; exact hl)]
  refine wpAny_pure (wpAny_newFunctionEnv S.nocell (fun ⟨n, _⟩ hy => S.par n (List.of_mem_zip hy).1) (fun hN hns hsb => ⟨lim.fresh _ hsb, ?_⟩) S.kind)
  show codeAny _ _ (.expr F.body (envF F.nf f s.heap.objs.size)) _ _
  have kp : ∀ b o, s.heap.get? b = some o → hN.get? b = some o := fun b o e => hsb.extBut b o (Nat.ne_of_lt (Heap.lt_size e)) (Heap.get?_push_of_some _ e)
  obtain ⟨t, ht, hq⟩ := hbody A outer s H vs Q E (hr.deeper _) hp hsp
  have I : Inv (ncx CX P w K mg base N F.nf f A outer s H E) [] (startF N vs ws) H { s with heap := hN, toks := s.toks + (ps.zip us).length } := inv_startN S hr.hd e0 hl r (C.at_ e0) hns kp
  refine PySem.W.kla_codeExpr (wpAny_mono (ht.run [] _ _ H Q I hq) (fun v sE hE => ?_) fun _ _ hE => hE)
  obtain ⟨y, HE, J, rv, qE⟩ := hE
  exact ⟨y, HE, J.os, J.bare, J.base, J.hok, rv, qE⟩
section
variable {X : Cx} {CX : CXT} {k : Nat} {g : Addr} {gd : FuncData} {ps fr : List Str} {js : List Nat} {cl : List (Str × Addr)} {E : XK} {x : Str} {p pos : Pos} {e : Expr} {es : List Expr} {t : L2.TA}
theorem cells_up {pins : List (Addr × Obj)} {σ : L2.St} {H : Hp} {s : Shared} (I : Inv X pins σ H s) (hfn : ∀ y, X.fn y = true) (cp : Caps X cl fr js) : ∀ b ∈ cl.map (·.2), (∃ y, cl.lookup y = some b) → H b = none ∧ b ∉ frs X.stack := fun b _ ⟨y, e⟩ => cell_nofr I hfn (cp.sub y b e)
/-- the cells that a function captured, as addresses -/
def celsOf (cl : List (Str × Addr)) : List Addr := (cl.map (·.1)).filterMap fun y => cl.lookup y
theorem celsOf_mem {y : Str} {c : Addr} (e : cl.lookup y = some c) : c ∈ celsOf cl := List.mem_filterMap.mpr ⟨y, List.mem_map_of_mem (PySem.mem_of_lookup e), e⟩
theorem celsOf_back {c : Addr} (h : c ∈ celsOf cl) : ∃ y, cl.lookup y = some c := by
  obtain ⟨y, _, e⟩ := List.mem_filterMap.mp h
  exact ⟨y, e⟩
/-- g(e, ..), g a def of the top that will call what the running def has made: its promise may speak of what the captured names hold -/
theorem pe_up {sp : List (Option V) → Sp} (F : ∀ (B : Heap) (ws : List (Option V)), (∀ b o, X.base.get? b = some o → B.get? b = some o) → CellsB B cl fr ws → FnOk X.prog X.w X.K X.mg B CX k g gd ps (sp ws)) (hfn : ∀ y, X.fn y = true) (cp : X.Ok → Caps X cl fr js)
    (hr : Room k X.A) (hg : Gl X x) (hm : X.mg x = some (.ref g)) (hk : PySem.W.keepIn X.K (.ref g) = true) (hb : Binds X.K gd ps []) (hx : Passes CX X E) (ha : PA X (e :: es) t) (hdb : (x == ("__debug__" : Str)) = false := by decide)
    (he : starEach (e :: es) X.env = (false, eval e X.env) :: starEach es X.env := by rfl) (hpl : (backTo pos (starEach es X.env)).any (·.1) = false := by rfl) :
    PE X (.Call (.Name x p) (e :: es) [] pos) (fun σ H Q => t σ H fun vs H1 => sp (js.map (slotAt σ)) vs H1 Q E) := by
  constructor
  intro pins s σ H Q I h
  refine wpAny_Call_Name_kw (ld_glob I hg hm ?_ hdb)
  refine PySem.W.callWith_K (h₀ := X.base) I.ok.mod.kin hk (thn (ha.run pos pins s σ H _ I h) fun us sB ⟨vs, HB, IB, rB, qB⟩ => ⟨IB.kIn, ?_⟩) he hpl
  obtain ⟨B, sub, hL, e0⟩ := up_base IB (celsOf cl) fun b hb => by
    obtain ⟨y, e⟩ := celsOf_back hb
    exact cell_nofr IB hfn ((cp IB.ok).sub y b e)
  have CB : CellsB B cl fr (js.map (slotAt σ)) := .of (cells_of IB (cp IB.ok)) fun y a e => hL a (celsOf_mem e)
  have G := F B _ sub CB
  have hl : us.length = ps.length := by rw [← rB.length]; exact G.len _ _ _ _ qB
  have bd := hb sB us IB.kIn (by rw [List.append_nil]; exact hl)
  rw [List.append_nil] at bd
  exact ep_of hx IB (G.run X.A X.stack sB HB ⟨us, []⟩ us vs Q E hr e0 bd rB qB)
/-- g(e, lambda ..: body) -/
theorem pe_lam2 {T : List (Addr × Str)} {c P : Addr} {sp : Addr → Addr → List (Option V) → Sp} {e1 body : Expr} {t1 : TE} {params : Arguments} {scope : Scope} {lpos : Pos}
    (F : ∀ (B : Heap) (f : Addr) (M : LF) (ws : List (Option V)), M.qual = X.env.qual ++ "<lambda>" → M.params = params → M.body = body → M.scope = scope → (∀ b o, X.base.get? b = some o → B.get? b = some o) → B.get? f = some M.obj → CellsB B M.cl fr ws → FnOk X.prog X.w X.K X.mg B CX k g gd ps (sp f M.c ws))
    (hfn : ∀ y, X.fn y = true) (hfree : ∀ y ∈ scope.names, y.2 = .free → X.env.scope.names.lookup y.1 = some .cell ∨ X.env.scope.names.lookup y.1 = some .free) (hfr : ∀ y ∈ fr, (y, NameKind.free) ∈ scope.names) (hjs : js.map (fun j => X.N[j]?) = fr.map some)
    (hr : Room k X.A) (hg : Gl X x) (hm : X.mg x = some (.ref g)) (hk : PySem.W.keepIn X.K (.ref g) = true) (hb : Binds X.K gd ps []) (hx : Passes CX X E) (h1 : PE X e1 t1)
    (TB : TabB X.base X.mg c P) (hcode : X.env.code = .ref c) (hmT : (P, X.env.qual ++ "<lambda>") ∈ T) (hu : ∀ q ∈ T, q.1 = P → q.2 = X.env.qual ++ "<lambda>") (hdef : defaultsOf params X.env = ([], [])) (hdb : (x == ("__debug__" : Str)) = false := by decide)
    (he : starEach [e1, .Lambda params body scope lpos] X.env = (false, eval e1 X.env) :: (false, eval (.Lambda params body scope lpos) X.env) :: starEach [] X.env := by rfl) :
    PE X (.Call (.Name x p) [e1, .Lambda params body scope lpos] [] pos) (fun σ H Q => t1 σ H fun v1 H1 => Tabs T H1 ∧ ∀ (f c' : Addr) (H2 : Hp), ExtN H1 H2 → Tabs T H2 → LPre c' (X.env.qual ++ "<lambda>") H2 → sp f c' (js.map (slotAt σ)) [v1, .ref f] H2 Q E) := by
  constructor
  intro pins s σ H Q I h
  have hfre : X.Ok → ∀ y ∈ scope.names, y.2 = .free → ∃ c, X.env.cells.lookup y.1 = some c := fun ok y hy e => (hfree y hy e).elim (fun z => ok.has _ (.inl z)) fun z => ok.has _ (.inr z)
  refine wpAny_Call_Name_kw (ld_glob I hg hm ?_ hdb)
  refine PySem.W.callWith_K (h₀ := X.base) I.ok.mod.kin hk ?_ (by rw [he]; rfl) (by rfl)
  rw [he]
  show wpAny _ _ (spliced ((false, eval e1 X.env) :: (false, eval (.Lambda params body scope lpos) X.env) :: backTo pos (starEach [] X.env))) _ _ s
  refine Calls.spliced_cons (thn (h1.run pins s σ H _ I h) fun u sA ⟨v1, HA, IA, rA, hT, qA⟩ => ?_)
  refine Calls.spliced_cons (lam_make2 IA TB hcode hmT hu hT hdef (hfre IA.ok) fun f c' pm' ctv HB sB IB eN TN hf hfN hfs hco => ?_)
  refine Calls.spliced_nil ⟨IB.kIn, ?_⟩
  have cp : Caps X (cloFrom X.env.cells scope.names []) fr js := Caps.made IB.ok hfree hfr hjs
  obtain ⟨B, sub, hL, e0⟩ := up_base IB (f :: celsOf (cloFrom X.env.cells scope.names [])) fun b hb => by
    rcases List.mem_cons.mp hb with z | z
    · rw [z]; exact ⟨hfN, hfs⟩
    · obtain ⟨y, e⟩ := celsOf_back z
      exact cell_nofr IB hfn (cp.sub y b e)
  have CB : CellsB B (cloFrom X.env.cells scope.names []) fr (js.map (slotAt σ)) := .of (cells_of IB cp) fun y a e => hL a (List.mem_cons_of_mem _ (celsOf_mem e))
  have G := F B f ⟨X.env.qual ++ "<lambda>", params, body, scope, cloFrom X.env.cells scope.names [], pm', c', ctv⟩ _ rfl rfl rfl rfl sub ((hL f List.mem_cons_self).trans hf) CB
  have qB := qA f c' HB eN TN hco
  have rB : Vals [v1, .ref f] [u, .ref f] := .cons rA (.cons rfl .nil)
  have hl : ([u, .ref f] : List Value).length = ps.length := by rw [← rB.length]; exact G.len _ _ _ _ qB
  have bd := hb sB [u, .ref f] IB.kIn (by rw [List.append_nil]; exact hl)
  rw [List.append_nil] at bd
  exact ep_of hx IB (G.run X.A X.stack sB HB ⟨[u, .ref f], []⟩ [u, .ref f] [v1, .ref f] Q E hr e0 bd rB qB)
end
end Aw

namespace Aw
open PySem L2
/-! ### a recipe asked: the askings change a state S -/
section
variable {S : Type} (o : S → Str → Int) (n : S → Str → S)
def maxL : List Int → Int
  | [] => 0
  | [x] => x
  | x :: r => max x (maxL r)
mutual
def ans : T → S → Int × S
  | .num k, st => (k, st)
  | .name s, st => (o st s, n st s)
  | .gate s b t, st => if o st s < b then (0, n st s) else ans t (n st s)
  | .join .sum ts, st => (min 30 (anss ts st).1.sum, (anss ts st).2)
  | .join .most ts, st => (maxL (anss ts st).1, (anss ts st).2)
  | .join .least ts, st => ansl ts 30 st
def anss : List T → S → List Int × S
  | [], st => ([], st)
  | t :: r, st => ((ans t st).1 :: (anss r (ans t st).2).1, (anss r (ans t st).2).2)
def ansl : List T → Int → S → Int × S
  | [], cur, st => (cur, st)
  | t :: r, cur, st => if 0 < cur then ansl r (min cur (ans t st).1) (ans t st).2 else (cur, st)
end
theorem anss_snoc : ∀ (ts : List T) (t : T) (st : S), anss o n (ts ++ [t]) st = ((anss o n ts st).1 ++ [(ans o n t (anss o n ts st).2).1], (ans o n t (anss o n ts st).2).2)
  | [], t, st => by
    show anss o n [t] st = _
    unfold anss
    unfold anss
    rfl
  | u :: r, t, st => by
    have ih := anss_snoc r t (ans o n u st).2
    show anss o n (u :: (r ++ [t])) st = _
    unfold anss
    rw [ih]
    rfl
theorem anss_len : ∀ (ts : List T) (st : S), (anss o n ts st).1.length = ts.length
  | [], st => by unfold anss; rfl
  | t :: r, st => by
    unfold anss
    rw [List.length_cons, anss_len r, List.length_cons]
end
theorem maxL_is : ∀ {l : List Int} {m : Int}, m ∈ l → (∀ x ∈ l, x ≤ m) → m = maxL l
  | [x], m, h, _ => List.mem_singleton.mp h
  | x :: y :: r, m, h, hle => by
    show m = max x (maxL (y :: r))
    have g : ∀ (l : List Int), l ≠ [] → maxL l ∈ l := by
      intro l
      induction l with
      | nil => intro z; exact absurd rfl z
      | cons a r ih =>
        intro _
        cases r with
        | nil => exact List.mem_singleton.mpr rfl
        | cons b r =>
          show max a (maxL (b :: r)) ∈ _
          rcases Int.le_total a (maxL (b :: r)) with q | q
          · rw [Int.max_eq_right q]; exact List.mem_cons_of_mem _ (ih (by intro z; cases z))
          · rw [Int.max_eq_left q]; exact List.mem_cons_self
    have hm := g (y :: r) (by intro z; cases z)
    have h1 := hle x List.mem_cons_self
    have h2 := hle _ (List.mem_cons_of_mem _ hm)
    rcases List.mem_cons.mp h with q | q
    · subst q; omega
    · have ih := maxL_is q fun z hz => hle z (List.mem_cons_of_mem _ hz)
      omega
mutual
/-- the names in a tree keep D -/
def Nm (D : Str → Prop) : T → Prop
  | .num _ => True
  | .name s => D s
  | .gate s _ t => D s ∧ Nm D t
  | .join _ ts => Nms D ts
def Nms (D : Str → Prop) : List T → Prop
  | [] => True
  | t :: r => Nm D t ∧ Nms D r
end
theorem Nms.mem {D : Str → Prop} : ∀ {ts : List T} {t : T}, Nms D ts → t ∈ ts → Nm D t
  | _ :: _, _, h, .head _ => h.1
  | _ :: _, _, h, .tail _ m => Nms.mem h.2 m
theorem Nms.of {D : Str → Prop} : ∀ {ts : List T}, (∀ t ∈ ts, Nm D t) → Nms D ts
  | [], _ => True.intro
  | t :: r, h => ⟨h t List.mem_cons_self, Nms.of fun u hu => h u (List.mem_cons_of_mem _ hu)⟩
theorem nm_of {D : Str → Prop} : ∀ (d : Nat) {t : T}, TOk D d t → Nm D t
  | d, .num _, _ => True.intro
  | d, .name s, h => h.name
  | 0, .gate _ _ _, h => h.elim
  | 0, .join _ _, h => h.elim
  | d + 1, .gate s b t, h => ⟨h.1, nm_of d h.2.2.2⟩
  | d + 1, .join k ts, h => Nms.of fun t ht => nm_of d (h.2.2 t ht)
mutual
/-- how often a tree asks at most -/
def cst : T → Nat
  | .num _ => 0
  | .name _ => 1
  | .gate _ _ t => cst t + 1
  | .join _ ts => csts ts
def csts : List T → Nat
  | [] => 0
  | t :: r => csts r + cst t
end
/-- what the askings promise: J k st, as long as k askings are left -/
structure AskOk {S : Type} (o : S → Str → Int) (n : S → Str → S) (D : Str → Prop) (J : Nat → S → Prop) : Prop where
  lo : ∀ k st s, J (k + 1) st → D s → 0 ≤ o st s
  hi : ∀ k st s, J (k + 1) st → D s → o st s ≤ 30
  st : ∀ k st s, J (k + 1) st → D s → J k (n st s)
  dn : ∀ k st, J (k + 1) st → J k st
theorem AskOk.add {S : Type} {o : S → Str → Int} {n : S → Str → S} {D : Str → Prop} {J : Nat → S → Prop} (K : AskOk o n D J) {k : Nat} {st : S} : ∀ j : Nat, J (k + j) st → J k st
  | 0, h => h
  | j + 1, h => K.add j (K.dn _ _ h)
theorem AskOk.le {S : Type} {o : S → Str → Int} {n : S → Str → S} {D : Str → Prop} {J : Nat → S → Prop} (K : AskOk o n D J) {k m : Nat} {st : S} (h : J m st) (hk : k ≤ m) : J k st := K.add (m - k) (by rw [Nat.add_sub_cancel' hk]; exact h)
section
variable {S : Type} {o : S → Str → Int} {n : S → Str → S} {D : Str → Prop} {J : Nat → S → Prop} (K : AskOk o n D J)
include K
theorem sum_nn : ∀ {l : List Int}, (∀ x ∈ l, 0 ≤ x) → 0 ≤ l.sum
  | [], _ => Int.le_refl 0
  | x :: r, h => by
    rw [List.sum_cons]
    have h1 := h x List.mem_cons_self
    have h2 := sum_nn (l := r) fun y hy => h y (List.mem_cons_of_mem _ hy)
    omega
mutual
theorem ans_ok : ∀ (t : T) (k : Nat) (st : S), WF t → Nm D t → J (k + cst t) st → 0 ≤ (ans o n t st).1 ∧ (ans o n t st).1 ≤ 30 ∧ J k (ans o n t st).2
  | .num v, k, st, w, _, i => by unfold ans; exact ⟨w.1, w.2, i⟩
  | .name s, k, st, _, d, i => by unfold ans; exact ⟨K.lo k st s i d, K.hi k st s i d, K.st k st s i d⟩
  | .gate s b t, k, st, w, d, i => by
    have i' : J (k + cst t + 1) st := i
    unfold ans
    split
    · exact ⟨Int.le_refl 0, by omega, K.add _ (K.st _ st s i' d.1)⟩
    · exact ans_ok t k _ w.2 d.2 (K.st _ st s i' d.1)
  | .join .sum ts, k, st, w, d, i => by
    obtain ⟨h1, h2⟩ := anss_ok ts k st w.2 d i
    have h3 := sum_nn K (l := (anss o n ts st).1) fun x hx => (h1 x hx).1
    unfold ans
    exact ⟨by show 0 ≤ min 30 _; omega, by show min 30 _ ≤ 30; omega, h2⟩
  | .join .most ts, k, st, w, d, i => by
    obtain ⟨h1, h2⟩ := anss_ok ts k st w.2 d i
    unfold ans
    have hm : maxL (anss o n ts st).1 ∈ (anss o n ts st).1 := by
      have g : ∀ (l : List Int), l ≠ [] → maxL l ∈ l := by
        intro l
        induction l with
        | nil => intro z; exact absurd rfl z
        | cons a r ih =>
          intro _
          cases r with
          | nil => exact List.mem_singleton.mpr rfl
          | cons b r =>
            show max a (maxL (b :: r)) ∈ _
            rcases Int.le_total a (maxL (b :: r)) with q | q
            · rw [Int.max_eq_right q]; exact List.mem_cons_of_mem _ (ih (by intro z; cases z))
            · rw [Int.max_eq_left q]; exact List.mem_cons_self
      refine g _ fun z => ?_
      have e := anss_len o n ts st
      rw [z] at e
      have := w.1
      simp at e
      omega
    exact ⟨(h1 _ hm).1, (h1 _ hm).2, h2⟩
  | .join .least ts, k, st, w, d, i => by
    unfold ans
    exact ansl_ok ts 30 k st w.2 d i (by decide) (by decide)
theorem anss_ok : ∀ (ts : List T) (k : Nat) (st : S), WFs ts → Nms D ts → J (k + csts ts) st → (∀ x ∈ (anss o n ts st).1, 0 ≤ x ∧ x ≤ 30) ∧ J k (anss o n ts st).2
  | [], k, st, _, _, i => by unfold anss; exact ⟨fun x hx => (by cases hx), i⟩
  | t :: r, k, st, w, d, i => by
    have i' : J (k + csts r + cst t) st := by rw [Nat.add_assoc]; exact i
    obtain ⟨a1, a2, a3⟩ := ans_ok t (k + csts r) st w.1 d.1 i'
    obtain ⟨b1, b2⟩ := anss_ok r k (ans o n t st).2 w.2 d.2 a3
    unfold anss
    refine ⟨fun x hx => ?_, b2⟩
    rcases List.mem_cons.mp hx with q | q
    · rw [q]; exact ⟨a1, a2⟩
    · exact b1 x q
theorem ansl_ok : ∀ (ts : List T) (cur : Int) (k : Nat) (st : S), WFs ts → Nms D ts → J (k + csts ts) st → 0 ≤ cur → cur ≤ 30 → 0 ≤ (ansl o n ts cur st).1 ∧ (ansl o n ts cur st).1 ≤ 30 ∧ J k (ansl o n ts cur st).2
  | [], cur, k, st, _, _, i, h0, h1 => by unfold ansl; exact ⟨h0, h1, i⟩
  | t :: r, cur, k, st, w, d, i, h0, h1 => by
    have i' : J (k + csts r + cst t) st := by rw [Nat.add_assoc]; exact i
    obtain ⟨a1, a2, a3⟩ := ans_ok t (k + csts r) st w.1 d.1 i'
    unfold ansl
    split
    · exact ansl_ok r _ k _ w.2 d.2 a3 (by omega) (by omega)
    · exact ⟨h0, h1, K.add _ i⟩
end
end
theorem csts_drop {ts : List T} {t : T} {i : Nat} (h : ts[i]? = some t) : csts (ts.drop i) = csts (ts.drop (i + 1)) + cst t := by
  have hlt := (List.getElem?_eq_some_iff.mp h).1
  have z := (List.getElem?_eq_some_iff.mp h).2
  rw [List.drop_eq_getElem_cons hlt, z]
  rfl
/-! ### the heap around an asking -/
/-- all but what stands in M -/
def ButS (M : Addr → Prop) (H H' : Hp) : Prop := ∀ b u, H b = some u → ¬ M b → H' b = some u
theorem ButS.refl (M : Addr → Prop) (H : Hp) : ButS M H H := fun _ _ h _ => h
theorem ButS.trans {M : Addr → Prop} {H H1 H2 : Hp} (a : ButS M H H1) (b : ButS M H1 H2) : ButS M H H2 := fun c u h hc => b c u (a c u h hc) hc
theorem ButS.of_same {M : Addr → Prop} {H H1 : Hp} (a : Same H H1) : ButS M H H1 := fun c u h _ => a c u h
/-- what an asking may change: lists that hold no objects, and dicts -/
def MOk (M : Addr → Prop) (H : Hp) : Prop := ∀ b, M b → (∃ xs, H b = some (.lst xs) ∧ ∀ a r, xs ≠ .ref a :: r) ∨ ∃ kvs, H b = some (.dK kvs)
theorem MOk.keep {M : Addr → Prop} {H H' : Hp} (m : MOk M H) (b : ButS M H H') : Keep H H' := by
  refine ⟨fun c xs q => b c _ q fun hc => ?_, fun c a r q => b c _ q fun hc => ?_⟩
  · rcases m c hc with ⟨ys, e, _⟩ | ⟨kvs, e⟩ <;> (rw [q] at e; cases e)
  · rcases m c hc with ⟨ys, e, n⟩ | ⟨kvs, e⟩
    · rw [q] at e; cases e; exact n a r rfl
    · rw [q] at e; cases e
theorem MOk.tups {M : Addr → Prop} {H H' : Hp} (m : MOk M H) (b : ButS M H H') : Tups H H' := (m.keep b).1
theorem MOk.new {M : Addr → Prop} {H : Hp} (m : MOk M H) {a : Addr} (h : H a = none) : ¬ M a := fun hc => by
  rcases m a hc with ⟨xs, e, _⟩ | ⟨kvs, e⟩ <;> (rw [h] at e; cases e)
theorem MOk.code {M : Addr → Prop} {H : Hp} (m : MOk M H) {c : Addr} {q : Str} (h : LPre c q H) : ¬ M c := fun hc => by
  have h : H c = some (LamX.CodeO c q) := h
  unfold LamX.CodeO at h
  rcases m c hc with ⟨xs, e, _⟩ | ⟨kvs, e⟩ <;> (rw [h] at e; cases e)
def minL (l : List Int) : Int := l.foldl min 30
theorem minL_snoc (l : List Int) (x : Int) : minL (l ++ [x]) = min (minL l) x := by
  unfold minL
  rw [List.foldl_append]
  rfl
theorem minL_is {l : List Int} {m : Int} (hm : m ∈ l) (hle : ∀ x ∈ l, m ≤ x) (h30 : ∀ x ∈ l, x ≤ 30) : minL l = m := by
  have g : ∀ (l : List Int) (c : Int), (∀ x ∈ l, m ≤ x) → m ≤ c → (m ∈ l ∨ c = m) → l.foldl min c = m := by
    intro l
    induction l with
    | nil =>
      intro c _ _ h
      rcases h with h | h
      · cases h
      · exact h
    | cons x r ih =>
      intro c h1 h2 h3
      have hx := h1 x List.mem_cons_self
      refine ih (min c x) (fun y hy => h1 y (List.mem_cons_of_mem _ hy)) (by omega) ?_
      rcases h3 with h3 | h3
      · rcases List.mem_cons.mp h3 with z | z
        · right; omega
        · exact .inl z
      · right; omega
  exact g l 30 hle (h30 m hm) (.inl hm)
theorem ansl_zero {S : Type} {o : S → Str → Int} {n : S → Str → S} : ∀ (ts : List T) (st : S), ansl o n ts 0 st = (0, st)
  | [], st => by unfold ansl; rfl
  | t :: r, st => by unfold ansl; rw [if_neg (Int.lt_irrefl 0)]
theorem ansl_cons {S : Type} {o : S → Str → Int} {n : S → Str → S} {t : T} {r : List T} {cur : Int} {st : S} (h : 0 < cur) : ansl o n (t :: r) cur st = ansl o n r (min cur (ans o n t st).1) (ans o n t st).2 := by
  conv => lhs; unfold ansl
  rw [if_pos h]
end Aw

namespace Aw
open PySem L2
/-! ### the least numbers that fit -/
section
variable (f : Str → Int)
abbrev ansU (t : T) : Int × Unit := ans (S := Unit) (fun _ => f) (fun _ _ => ()) t ()
def ev (t : T) : Int := (ansU f t).1
def evl (ts : List T) (cur : Int) : Int := (ansl (S := Unit) (fun _ => f) (fun _ _ => ()) ts cur ()).1
theorem anssU : ∀ ts : List T, (anss (S := Unit) (fun _ => f) (fun _ _ => ()) ts ()).1 = ts.map (ev f)
  | [] => by unfold anss; rfl
  | t :: r => by
    have ih := anssU r
    unfold anss
    rw [List.map_cons, ← ih]
    rfl
theorem ev_num {k : Int} : ev f (.num k) = k := by unfold ev ansU ans; rfl
theorem ev_name {s : Str} : ev f (.name s) = f s := by unfold ev ansU ans; rfl
theorem ev_gate {s : Str} {b : Int} {t : T} : ev f (.gate s b t) = if f s < b then 0 else ev f t := by
  show (ans _ _ (.gate s b t) ()).1 = _
  unfold ans
  split <;> rfl
theorem ev_sum {ts : List T} : ev f (.join .sum ts) = min 30 (ts.map (ev f)).sum := by
  show (ans _ _ (.join .sum ts) ()).1 = _
  unfold ans
  rw [← anssU]
theorem ev_most {ts : List T} : ev f (.join .most ts) = maxL (ts.map (ev f)) := by
  show (ans _ _ (.join .most ts) ()).1 = _
  unfold ans
  rw [← anssU]
theorem ev_least {ts : List T} : ev f (.join .least ts) = evl f ts 30 := by
  show (ans _ _ (.join .least ts) ()).1 = _
  unfold ans
  rfl
theorem evl_nil {cur : Int} : evl f [] cur = cur := by unfold evl ansl; rfl
theorem evl_cons {t : T} {r : List T} {cur : Int} : evl f (t :: r) cur = if 0 < cur then evl f r (min cur (ev f t)) else cur := by
  show (ansl _ _ (t :: r) cur ()).1 = _
  unfold ansl
  split <;> rfl
end
theorem okU {f : Str → Int} (h : ∀ s, 0 ≤ f s ∧ f s ≤ 30) : AskOk (S := Unit) (fun _ => f) (fun _ _ => ()) (fun _ => True) (fun _ _ => True) :=
  ⟨fun _ _ s _ _ => (h s).1, fun _ _ s _ _ => (h s).2, fun _ _ _ _ _ => True.intro, fun _ _ _ => True.intro⟩
mutual
theorem nm_true : ∀ t : T, Nm (fun _ => True) t
  | .num _ => True.intro
  | .name _ => True.intro
  | .gate _ _ t => ⟨True.intro, nm_true t⟩
  | .join _ ts => nms_true ts
theorem nms_true : ∀ ts : List T, Nms (fun _ => True) ts
  | [] => True.intro
  | t :: r => ⟨nm_true t, nms_true r⟩
end
theorem ev_rng {f : Str → Int} (h : ∀ s, 0 ≤ f s ∧ f s ≤ 30) {t : T} (w : WF t) : 0 ≤ ev f t ∧ ev f t ≤ 30 := by
  obtain ⟨a, b, _⟩ := ans_ok (okU h) t 0 () w (nm_true t) True.intro
  exact ⟨a, b⟩
mutual
theorem ev_nn {f : Str → Int} (h : ∀ s, 0 ≤ f s) : ∀ t : T, WF t → 0 ≤ ev f t
  | .num k, w => by rw [ev_num]; exact w.1
  | .name s, _ => by rw [ev_name]; exact h s
  | .gate s b t, w => by
    rw [ev_gate]
    split
    · exact Int.le_refl 0
    · exact ev_nn h t w.2
  | .join .sum ts, w => by
    rw [ev_sum]
    have := evs_nn h ts w.2
    omega
  | .join .most ts, w => by rw [ev_most]; exact evm_nn h ts w.2
  | .join .least ts, w => by rw [ev_least]; exact evl_nn h ts 30 w.2 (by decide)
theorem evs_nn {f : Str → Int} (h : ∀ s, 0 ≤ f s) : ∀ ts : List T, WFs ts → 0 ≤ (ts.map (ev f)).sum
  | [], _ => Int.le_refl 0
  | t :: r, w => by
    have h1 := ev_nn h t w.1
    have h2 := evs_nn h r w.2
    rw [List.map_cons, List.sum_cons]
    omega
theorem evm_nn {f : Str → Int} (h : ∀ s, 0 ≤ f s) : ∀ ts : List T, WFs ts → 0 ≤ maxL (ts.map (ev f))
  | [], _ => Int.le_refl 0
  | [t], w => ev_nn h t w.1
  | t :: u :: r, w => by
    have h1 := ev_nn h t w.1
    show 0 ≤ max (ev f t) (maxL ((u :: r).map (ev f)))
    omega
theorem evl_nn {f : Str → Int} (h : ∀ s, 0 ≤ f s) : ∀ (ts : List T) (cur : Int), WFs ts → 0 ≤ cur → 0 ≤ evl f ts cur
  | [], cur, _, c => by rw [evl_nil]; exact c
  | t :: r, cur, w, c => by
    have h1 := ev_nn h t w.1
    rw [evl_cons]
    split
    · exact evl_nn h r _ w.2 (by omega)
    · exact c
end
mutual
theorem ev_mono {f g : Str → Int} (h0 : ∀ s, 0 ≤ f s) (h : ∀ s, f s ≤ g s) : ∀ t : T, WF t → ev f t ≤ ev g t
  | .num k, _ => by rw [ev_num, ev_num]; exact Int.le_refl k
  | .name s, _ => by rw [ev_name, ev_name]; exact h s
  | .gate s b t, w => by
    have ih := ev_mono h0 h t w.2
    have hs := h s
    have gn := ev_nn (fun s => Int.le_trans (h0 s) (h s)) t w.2
    rw [ev_gate, ev_gate]
    split
    · split
      · exact Int.le_refl 0
      · exact gn
    · rw [if_neg (by omega)]
      exact ih
  | .join .sum ts, w => by
    rw [ev_sum, ev_sum]
    have := evs_mono h0 h ts w.2
    omega
  | .join .most ts, w => by rw [ev_most, ev_most]; exact evm_mono h0 h ts w.2
  | .join .least ts, w => by rw [ev_least, ev_least]; exact evl_mono h0 h ts 30 30 w.2 (by decide) (Int.le_refl _)
theorem evs_mono {f g : Str → Int} (h0 : ∀ s, 0 ≤ f s) (h : ∀ s, f s ≤ g s) : ∀ ts : List T, WFs ts → (ts.map (ev f)).sum ≤ (ts.map (ev g)).sum
  | [], _ => Int.le_refl 0
  | t :: r, w => by
    have h1 := ev_mono h0 h t w.1
    have h2 := evs_mono h0 h r w.2
    rw [List.map_cons, List.map_cons, List.sum_cons, List.sum_cons]
    omega
theorem evm_mono {f g : Str → Int} (h0 : ∀ s, 0 ≤ f s) (h : ∀ s, f s ≤ g s) : ∀ ts : List T, WFs ts → maxL (ts.map (ev f)) ≤ maxL (ts.map (ev g))
  | [], _ => Int.le_refl 0
  | [t], w => ev_mono h0 h t w.1
  | t :: u :: r, w => by
    have h1 := ev_mono h0 h t w.1
    have h2 := evm_mono h0 h (u :: r) w.2
    show max (ev f t) (maxL ((u :: r).map (ev f))) ≤ max (ev g t) (maxL ((u :: r).map (ev g)))
    omega
theorem evl_mono {f g : Str → Int} (h0 : ∀ s, 0 ≤ f s) (h : ∀ s, f s ≤ g s) : ∀ (ts : List T) (c d : Int), WFs ts → 0 ≤ c → c ≤ d → evl f ts c ≤ evl g ts d
  | [], c, d, _, _, le => by rw [evl_nil, evl_nil]; exact le
  | t :: r, c, d, w, c0, le => by
    have h1 := ev_mono h0 h t w.1
    have h2 := ev_nn h0 t w.1
    have gn := evl_nn (fun s => Int.le_trans (h0 s) (h s)) (t :: r) d w (by omega)
    rw [evl_cons]
    split
    · rw [evl_cons, if_pos (by omega)]
      exact evl_mono h0 h r _ _ w.2 (by omega) (by omega)
    · omega
end
/-! ### rounds -/
def put1 (x : Str → Int) (s : Str) (v : Int) : Str → Int := fun z => if z = s then v else x z
/-- what stands on the way up: below each answer, below all that fit -/
structure Up (ws : List Str) (rc : Str → T) (x0 x : Str → Int) : Prop where
  out : ∀ s, s ∉ ws → x s = x0 s
  rng : ∀ s, 0 ≤ x s ∧ x s ≤ 30
  up : ∀ s, s ∈ ws → x s ≤ ev x (rc s)
  low : ∀ y : Str → Int, (∀ s, 0 ≤ y s) → (∀ s, s ∉ ws → x0 s ≤ y s) → (∀ s, s ∈ ws → ev y (rc s) ≤ y s) → ∀ s, x s ≤ y s
theorem Up.start {ws : List Str} {rc : Str → T} {x0 : Str → Int} (w : ∀ s ∈ ws, WF (rc s)) (h : ∀ s, 0 ≤ x0 s ∧ x0 s ≤ 30) (z : ∀ s, s ∈ ws → x0 s = 0) : Up ws rc x0 x0 :=
  ⟨fun _ _ => rfl, h, fun s hs => by rw [z s hs]; exact ev_nn (fun s => (h s).1) _ (w s hs), fun y y0 yo _ s => by
    by_cases c : s ∈ ws
    · rw [z s c]; exact y0 s
    · exact yo s c⟩
theorem Up.step {ws : List Str} {rc : Str → T} {x0 x : Str → Int} (w : ∀ s ∈ ws, WF (rc s)) (u : Up ws rc x0 x) {s : Str} (hs : s ∈ ws) : Up ws rc x0 (put1 x s (ev x (rc s))) ∧ ∀ z, x z ≤ put1 x s (ev x (rc s)) z := by
  have le : ∀ z, x z ≤ put1 x s (ev x (rc s)) z := fun z => by
    unfold put1
    split
    · next e => rw [e]; exact u.up s hs
    · exact Int.le_refl _
  refine ⟨⟨fun z hz => ?_, fun z => ?_, fun z hz => ?_, fun y y0 yo yw z => ?_⟩, le⟩
  · unfold put1
    rw [if_neg (fun e => hz (by rw [e]; exact hs))]
    exact u.out z hz
  · unfold put1
    split
    · exact ev_rng u.rng (w s hs)
    · exact u.rng z
  · have m := ev_mono (fun s => (u.rng s).1) le (rc z) (w z hz)
    unfold put1 at m ⊢
    split
    · next e => rw [e] at m ⊢; exact m
    · exact Int.le_trans (u.up z hz) m
  · have l := u.low y y0 yo yw
    unfold put1
    split
    · next e =>
      rw [e]
      exact Int.le_trans (ev_mono (fun s => (u.rng s).1) l (rc s) (w s hs)) (yw s hs)
    · exact l z
def rnd (rc : Str → T) : List Str → (Str → Int) → Str → Int
  | [], x => x
  | s :: r, x => rnd rc r (put1 x s (ev x (rc s)))
theorem Up.rnd {ws : List Str} {rc : Str → T} {x0 : Str → Int} (w : ∀ s ∈ ws, WF (rc s)) : ∀ (l : List Str) {x : Str → Int}, Up ws rc x0 x → (∀ s ∈ l, s ∈ ws) → Up ws rc x0 (rnd rc l x) ∧ ∀ z, x z ≤ Aw.rnd rc l x z
  | [], x, u, _ => ⟨u, fun z => Int.le_refl _⟩
  | s :: r, x, u, h => by
    obtain ⟨u1, l1⟩ := u.step w (h s List.mem_cons_self)
    obtain ⟨u2, l2⟩ := Up.rnd w r u1 fun z hz => h z (List.mem_cons_of_mem _ hz)
    exact ⟨u2, fun z => Int.le_trans (l1 z) (l2 z)⟩
/-- a round that changes nothing has come to numbers that fit -/
theorem rnd_fix {ws : List Str} {rc : Str → T} {x0 : Str → Int} (w : ∀ s ∈ ws, WF (rc s)) : ∀ (l : List Str) {x : Str → Int}, Up ws rc x0 x → (∀ s ∈ l, s ∈ ws) → (∀ z, rnd rc l x z = x z) → ∀ s ∈ l, x s = ev x (rc s)
  | [], _, _, _, _, s, hs => by cases hs
  | a :: r, x, u, h, e, s, hs => by
    obtain ⟨u1, l1⟩ := u.step w (h a List.mem_cons_self)
    obtain ⟨u2, l2⟩ := Up.rnd w r u1 fun z hz => h z (List.mem_cons_of_mem _ hz)
    have same : put1 x a (ev x (rc a)) = x := by
      funext z
      have h1 := l1 z
      have h2 := l2 z
      have h3 := e z
      unfold rnd at h3
      omega
    have ea : x a = ev x (rc a) := by
      have z := congrFun same a
      unfold put1 at z
      rw [if_pos rfl] at z
      exact z.symm
    rcases List.mem_cons.mp hs with q | q
    · rw [q]; exact ea
    · refine rnd_fix w r u (fun z hz => h z (List.mem_cons_of_mem _ hz)) (fun z => ?_) s q
      have h3 := e z
      unfold rnd at h3
      rw [same] at h3
      exact h3
def gap (ws : List Str) (x : Str → Int) : Nat := (ws.map fun s => (30 - x s).toNat).sum
theorem gap_le {x y : Str → Int} (h : ∀ z, x z ≤ y z) : ∀ ws : List Str, gap ws y ≤ gap ws x
  | [] => Nat.le_refl _
  | s :: r => by
    have ih := gap_le h r
    have hs := h s
    unfold gap at ih ⊢
    rw [List.map_cons, List.map_cons, List.sum_cons, List.sum_cons]
    omega
theorem gap_lt {x y : Str → Int} (h : ∀ z, x z ≤ y z) (t : ∀ z, y z ≤ 30) : ∀ {ws : List Str} {s : Str}, s ∈ ws → x s < y s → gap ws y < gap ws x
  | a :: r, s, hs, lt => by
    have ha := h a
    have ta := t a
    have le := gap_le h r
    unfold gap at le ⊢
    rw [List.map_cons, List.map_cons, List.sum_cons, List.sum_cons]
    rcases List.mem_cons.mp hs with q | q
    · subst q; omega
    · have ih := gap_lt h t q lt
      unfold gap at ih
      omega
/-- the least numbers that fit -/
structure Lfp (ws : List Str) (rc : Str → T) (x0 x : Str → Int) : Prop where
  out : ∀ s, s ∉ ws → x s = x0 s
  rng : ∀ s, 0 ≤ x s ∧ x s ≤ 30
  fit : ∀ s, s ∈ ws → x s = ev x (rc s)
  low : ∀ y : Str → Int, (∀ s, 0 ≤ y s) → (∀ s, s ∉ ws → x0 s ≤ y s) → (∀ s, s ∈ ws → ev y (rc s) ≤ y s) → ∀ s, x s ≤ y s
theorem Up.lfp {ws : List Str} {rc : Str → T} {x0 x : Str → Int} (w : ∀ s ∈ ws, WF (rc s)) (u : Up ws rc x0 x) (e : ∀ z, Aw.rnd rc ws x z = x z) : Lfp ws rc x0 x := ⟨u.out, u.rng, rnd_fix w ws u (fun _ h => h) e, u.low⟩
theorem Lfp.one {ws : List Str} {rc : Str → T} {x0 x y : Str → Int} (a : Lfp ws rc x0 x) (b : Lfp ws rc x0 y) (s : Str) : x s = y s := by
  have h1 := a.low y (fun s => (b.rng s).1) (fun s h => Int.le_of_eq (b.out s h).symm) (fun s h => Int.le_of_eq (b.fit s h).symm) s
  have h2 := b.low x (fun s => (a.rng s).1) (fun s h => Int.le_of_eq (a.out s h).symm) (fun s h => Int.le_of_eq (a.fit s h).symm) s
  omega
end Aw

namespace Aw
open PySem L2
/-! ### dicts of numbers by names -/
theorem hits_int {A : Around} {s : Shared} {ls : List (Key × V)} {vb : List (Key × Value)} (rb : KV ls vb) : ∀ {ks : List (Key × V)} {va : List (Key × Value)}, KV ks va → (∀ p ∈ ks, ∃ i j : Int, p.2 = .int i ∧ valV ls p.1 = some (.int j)) →
    PySem.W.KeqHits A s vb va (ks.all fun p => decide (valV ls p.1 = some p.2)) := by
  intro ks va ra
  unfold KV at ra
  induction ra with
  | nil => intro _; exact .nil
  | @cons p q ps qs h t ih =>
    intro hp
    obtain ⟨h1, h2⟩ := h
    obtain ⟨i, j, e, f⟩ := hp p List.mem_cons_self
    have rr : RelO (some (.int j)) (valueAt vb p.1) := by rw [← f]; exact rb.val p.1
    obtain ⟨y, hy, ry⟩ := rr.some_of
    obtain ⟨k, v⟩ := q
    have h1' : p.1 = k := h1
    rw [h1'] at hy
    rw [e] at h2
    obtain ⟨t1, rfl⟩ := (show ∃ t, v = Value.int i t from h2)
    obtain ⟨t2, rfl⟩ := (show ∃ t, y = Value.int j t from ry)
    rw [List.all_cons]
    have ee : decide (valV ls p.1 = some p.2) = decide (i = j) := by
      rw [f, e]
      by_cases c : i = j
      · subst c; rw [decide_eq_true rfl, decide_eq_true rfl]
      · rw [decide_eq_false (fun z => c (V.int.inj (Option.some.inj z)).symm), decide_eq_false c]
    rw [ee]
    exact .hit hy (PySem.SeqAt.EqAt.int_int i t1 j t2) (ih fun p' hm => hp p' (List.mem_cons_of_mem _ hm))
section
variable {X : Cx}
def rNeDI : R2 := fun x y H Q => ∃ a b ks ls, x = .ref a ∧ y = .ref b ∧ H a = some (.dK ks) ∧ H b = some (.dK ls) ∧ ks.length = ls.length ∧ (∀ p ∈ ks, ∃ i j : Int, p.2 = .int i ∧ valV ls p.1 = some (.int j)) ∧ Q (.bl (!(ks.all fun p => decide (valV ls p.1 = some p.2)))) H
theorem op_ne_dictI (hu : X.A.units < cLine) : OpR X (compareOp .NotEq) rNeDI := by
  intro pins s σ H x y v u Q I rx ry h
  obtain ⟨a, b, ks, ls, rfl, rfl, ea, eb, hlen, hp, q⟩ := h
  obtain rfl : v = Value.ref a := rx
  obtain rfl : u = Value.ref b := ry
  obtain ⟨_, ya, va, ra, da⟩ := (show ObjOk X.prog X.w H s.heap a (.dK ks) from I.hok a _ ea)
  obtain ⟨_, yb, vb, rb, db⟩ := (show ObjOk X.prog X.w H s.heap b (.dK ls) from I.hok b _ eb)
  have hl : va.length = vb.length := by rw [← ra.length, ← rb.length]; exact hlen
  exact PySem.W.keq_ne (knd := mixKind X.prog X.w) ya yb da db hu (fun _ => hits_int rb ra hp) (fin_bl I q (by simp [hl]))
end
def num (kvs : List (Key × V)) (s : Str) : Int := match valV kvs (Sum.inr s) with
  | some (.int v) => v
  | _ => 0
/-- names with numbers from 0 to 30, each once -/
structure SD (kvs : List (Key × V)) : Prop where
  nd : (kvs.map (·.1)).Nodup
  ok : ∀ p ∈ kvs, ∃ (s : Str) (i : Int), p = (Sum.inr s, .int i) ∧ 0 ≤ i ∧ i ≤ 30
theorem valV_mem {κ : Type} [DecidableEq κ] {k : κ} {v : V} : ∀ {kvs : List (κ × V)}, valV kvs k = some v → (k, v) ∈ kvs
  | [], h => by cases h
  | p :: r, h => by
    by_cases e : p.1 = k
    · rw [valV_pos e] at h
      cases h
      rw [← e]
      exact List.mem_cons_self
    · rw [valV_neg e] at h
      exact List.mem_cons_of_mem _ (valV_mem h)
theorem mem_valV {κ : Type} [DecidableEq κ] {p : κ × V} : ∀ {kvs : List (κ × V)}, (kvs.map (·.1)).Nodup → p ∈ kvs → valV kvs p.1 = some p.2
  | q :: r, nd, h => by
    rw [List.map_cons, List.nodup_cons] at nd
    rcases List.mem_cons.mp h with e | e
    · rw [e]; exact valV_pos rfl
    · rw [valV_neg (fun z => nd.1 (by rw [z]; exact List.mem_map_of_mem e))]
      exact mem_valV nd.2 e
theorem SD.rng {kvs : List (Key × V)} (d : SD kvs) (s : Str) : 0 ≤ num kvs s ∧ num kvs s ≤ 30 := by
  unfold num
  split
  · next v e =>
    obtain ⟨s', i, e', h0, h1⟩ := d.ok _ (valV_mem e)
    cases e'
    exact ⟨h0, h1⟩
  · exact ⟨Int.le_refl 0, by decide⟩
theorem SD.val {kvs : List (Key × V)} (d : SD kvs) {s : Str} {v : V} (e : valV kvs (Sum.inr s) = some v) : v = .int (num kvs s) := by
  obtain ⟨s', i, e', _, _⟩ := d.ok _ (valV_mem e)
  cases e'
  unfold num
  rw [e]
theorem num_get {kvs : List (Key × V)} (d : SD kvs) (s : Str) : (valV kvs (Sum.inr s)).getD (.int 0) = .int (num kvs s) := by
  cases e : valV kvs (Sum.inr s) with
  | none =>
    unfold num
    rw [e]
    rfl
  | some v => rw [d.val e]; rfl
theorem num_put (kvs : List (Key × V)) (s : Str) (v : Int) : num (putK kvs (Sum.inr s) (.int v)) = put1 (num kvs) s v := by
  funext z
  unfold num put1
  rw [valV_put]
  by_cases c : z = s
  · subst c
    rw [if_pos rfl, if_pos rfl]
  · rw [if_neg (fun e => c (Sum.inr.inj e)), if_neg c]
theorem keys_put {kvs : List (Key × V)} {k : Key} {v : V} (h : (valV kvs k).isSome = true) : (putK kvs k v).map (·.1) = kvs.map (·.1) := by
  unfold putK
  rw [valV_any, if_pos h, List.map_map]
  congr 1
  funext p
  simp only [Function.comp]
  split <;> rfl
theorem SD.put {kvs : List (Key × V)} (d : SD kvs) {s : Str} {v : Int} (h : (valV kvs (Sum.inr s)).isSome = true) (h0 : 0 ≤ v) (h1 : v ≤ 30) : SD (putK kvs (Sum.inr s) (.int v)) := by
  refine ⟨by rw [keys_put h]; exact d.nd, fun p hp => ?_⟩
  unfold putK at hp
  rw [valV_any, if_pos h] at hp
  obtain ⟨q, hq, e⟩ := List.mem_map.mp hp
  by_cases c : q.1 = Sum.inr s
  · rw [if_pos c, c] at e
    exact ⟨s, v, e.symm, h0, h1⟩
  · rw [if_neg c] at e
    rw [← e]
    exact d.ok q hq
def rndK (rc : Str → T) : List Str → List (Key × V) → List (Key × V)
  | [], k => k
  | s :: r, k => rndK rc r (putK k (Sum.inr s) (.int (ev (num k) (rc s))))
theorem num_rnd (rc : Str → T) : ∀ (l : List Str) (k : List (Key × V)), num (rndK rc l k) = rnd rc l (num k)
  | [], k => rfl
  | s :: r, k => by
    show num (rndK rc r _) = rnd rc r _
    rw [num_rnd rc r, num_put]
theorem rndK_snoc (rc : Str → T) : ∀ (l : List Str) (s : Str) (k : List (Key × V)), rndK rc (l ++ [s]) k = putK (rndK rc l k) (Sum.inr s) (.int (ev (num (rndK rc l k)) (rc s)))
  | [], s, k => rfl
  | a :: r, s, k => rndK_snoc rc r s _
theorem rndK_ok {rc : Str → T} : ∀ {l : List Str} {k : List (Key × V)}, SD k → (∀ s ∈ l, WF (rc s)) → (∀ s ∈ l, (valV k (Sum.inr s)).isSome = true) → SD (rndK rc l k) ∧ (rndK rc l k).map (·.1) = k.map (·.1)
  | [], k, d, _, _ => ⟨d, rfl⟩
  | s :: r, k, d, w, h => by
    have hs := h s List.mem_cons_self
    obtain ⟨v0, v1⟩ := ev_rng d.rng (w s List.mem_cons_self)
    obtain ⟨a, b⟩ := rndK_ok (rc := rc) (l := r) (d.put hs v0 v1) (fun z hz => w z (List.mem_cons_of_mem _ hz)) (fun z hz => by
      rw [valV_put]
      split
      · rfl
      · exact h z (List.mem_cons_of_mem _ hz))
    exact ⟨a, b.trans (keys_put hs)⟩
theorem key_some {kvs : List (Key × V)} {k : Key} : (valV kvs k).isSome = true ↔ k ∈ kvs.map (·.1) := by
  constructor
  · intro h
    cases e : valV kvs k with
    | none => rw [e] at h; cases h
    | some v => exact List.mem_map.mpr ⟨_, valV_mem e, rfl⟩
  · intro h
    obtain ⟨p, hp, e⟩ := List.mem_map.mp h
    rw [← e, ← valV_any]
    exact List.any_eq_true.mpr ⟨p, hp, decide_eq_true rfl⟩
/-- two such dicts of the same names compared -/
theorem all_same {ks ls : List (Key × V)} (a : SD ks) (b : SD ls) (hk : ks.map (·.1) = ls.map (·.1)) :
    ks.length = ls.length ∧ (∀ p ∈ ks, ∃ i j : Int, p.2 = .int i ∧ valV ls p.1 = some (.int j)) ∧ ((ks.all fun p => decide (valV ls p.1 = some p.2)) = true → ∀ z, num ks z = num ls z) ∧ ((ks.all fun p => decide (valV ls p.1 = some p.2)) = false → ∃ z, num ks z ≠ num ls z) := by
  have hin : ∀ p ∈ ks, ∃ i j : Int, p.2 = .int i ∧ valV ls p.1 = some (.int j) := fun p hp => by
    obtain ⟨s, i, e, _, _⟩ := a.ok p hp
    subst e
    have hm : (Sum.inr s : Key) ∈ ls.map (·.1) := by rw [← hk]; exact List.mem_map_of_mem hp
    obtain ⟨v, hv⟩ := Option.isSome_iff_exists.mp (key_some.mpr hm)
    obtain ⟨s', j, e', _, _⟩ := b.ok _ (valV_mem hv)
    cases e'
    exact ⟨i, j, rfl, hv⟩
  refine ⟨by have := congrArg List.length hk; simpa using this, hin, fun h z => ?_, fun h => ?_⟩
  · cases e : valV ks (Sum.inr z) with
    | some v =>
      have hv := a.val e
      subst hv
      have q := of_decide_eq_true (List.all_eq_true.mp h _ (valV_mem e))
      have := b.val q
      exact V.int.inj this
    | none =>
      have e2 : valV ls (Sum.inr z) = none := by
        cases e2 : valV ls (Sum.inr z) with
        | none => rfl
        | some v =>
          have : (Sum.inr z : Key) ∈ ks.map (·.1) := by rw [hk]; exact key_some.mp (by rw [e2]; rfl)
          have := key_some.mpr this
          rw [e] at this
          cases this
      unfold num
      rw [e, e2]
  · obtain ⟨p, hp, hn⟩ := List.all_eq_false.mp h
    obtain ⟨s, i, e, _, _⟩ := a.ok p hp
    subst e
    have h1 := mem_valV a.nd hp
    refine ⟨s, fun z => hn (decide_eq_true ?_)⟩
    obtain ⟨i', j, e1, e2⟩ := hin _ hp
    have h3 := b.val e2
    have h4 := a.val h1
    show valV ls (Sum.inr s) = some (.int i)
    rw [e2, h3, ← z]
    exact congrArg some h4.symm
end Aw

namespace Aw
open PySem L2 PySem.Spec PyProof.Rows
section
variable {X : Cx}
/-- a dict comprehension over one walk, given to a local name of the def -/
theorem ps_setDc {j : Nat} {z : Str} {pz p pst : Pos} {ke ve tgt it : Expr} {cs : List Expr} {sc : Scope} {ow : List (Str × Nat)} {wt : TI} {gt : TG} {ct : TT} {kt vt : TE} (cm : X.calm = true) (ndN : X.N.Nodup) (zj : X.N[j]? = some z) (zl : X.env.scope.names.lookup z = some .local)
    (sw : swapsWith (.DictComp ke ve [⟨tgt, it, cs, 0⟩] sc p) (some (.Name z pz)) pst.line X.env = pure true) (pit : L2.PI X tgt it wt) (bo : BlkOk X.N X.env.scope sc ow)
    (pg : ∀ s H C cl fp, PG (X.blk s H sc (compEnvC sc cl C X.env) fp) tgt gt) (pt : ∀ s H C cl fp, PTs (X.blk s H sc (compEnvC sc cl C X.env) fp) cs ct)
    (pk : ∀ s H C cl fp, PE (X.blk s H sc (compEnvC sc cl C X.env) fp) ke kt) (pv : ∀ s H C cl fp, PE (X.blk s H sc (compEnvC sc cl C X.env) fp) ve vt) (nf : ∀ x, foldedSetIterable it X.env x = pure x := by intro _; rfl) :
    PS X (.Assign [.Name z pz] (.DictComp ke ve [⟨tgt, it, cs, 0⟩] sc p) pst) (tAsg (tDc wt gt ct kt vt (ow.map (·.2))) (gName j)) := by
  refine ⟨fun pn s0 st H0 En J hd => ?_⟩
  have hd' : tDc wt gt ct kt vt (ow.map (·.2)) st H0 (fun x H1 => gName j x st H1 En.nx) := hd
  rw [PySem.exec_Assign_Name_used _ _ _ _ sw]
  refine wpAny_bind (wpAny_standAt (wpAny_bind ?_))
  refine wpAny_bind (thn (dc_core (use := some (assign (.Name z pz) X.env)) (Qf := fun _ s' => SP X pn En .next s') (pos' := firstIterPos [⟨tgt, it, cs, 0⟩] p) cm ndN J pit bo pg pt pk pv nf hd' fun L C s1 m H1 J1 q1 hn fo => ?_) fun _ s2 hq => wpAny_pure (wpAny_pure hq))
  show wpAny _ _ (assign (.Name z pz) X.env (.ref L)) _ _ _
  refine wpAny_assign_Name (store_ok2 (v := V.ref L) J1 ndN zj (.inl zl) rfl (fun s2 J2 ⟨a, sb, ha⟩ => ?_) (.inr zl))
  obtain ⟨g0, g1, g2, g3, g4, g5⟩ := fo
  refine ⟨m, hn.sameBut sb (by rcases ha with e | e; (rw [e]; exact g1); exact fun w => g4 z a e w.symm), fun h3 sb3 => ⟨_, H1, J2.turned (t' := s2.toks) (fun b o hb e => (sb3.2 b hb).trans e) g0 g1 g3 g4 g5, q1⟩⟩
theorem sw_dict {ke ve : Expr} {gs : List Comprehension} {sc : Scope} {p pz : Pos} {z : Str} {l : Nat} {env : Env} (k : env.scope.kind = .function) (zl : env.scope.names.lookup z = some .local) (ln : (pz.line == p.line) = true)
    (own : (sc.names.any fun (n, k) => n == z && (k == .local || k == .cell)) = false) : swapsWith (.DictComp ke ve gs sc p) (some (.Name z pz)) l env = pure true := by
  have a1 : env.kindOf z = some .local := zl
  have a2 : env.blockKind = .function := by rw [Env.blockKind, k]; rfl
  simp only [swapsWith, a2, a1, own, Expr.pos, ln]
  rfl
end
end Aw

namespace Aw
open PySem L2 PySem.Spec PyProof.Rows
/-! ### an exception that leaves a dict comprehension (given to a local name) -/
/-- what a comprehension's block leaves behind; F: the frame that it runs in -/
def cPost (M : Model) (A : Around) (E : Value → Shared → Prop) (F : Option Addr) (u : Value → Sem Unit) (Q : Value → Shared → Prop) (acc : Value) (C : Addr) : Result → Shared → Prop
  | .ok _, s1 => wpAny M A (u acc) (fun _ s2 => ∃ m, s2.heap.Ns C m ∧ ∀ g, Heap.SameBut C s2.heap g → Q .none { s2 with heap := g }) E s1
  | .error x, s1 => ∃ m, s1.heap.Ns C m ∧ ∀ g, Heap.SameBut C s1.heap g → ∀ ce : Env, ce.frame = F → wpAny M A (PySem.passOn "comprehension.variables-let-go" x ce : Sem Value) (fun _ _ => False) E { s1 with heap := g }
theorem comp_frame {M : Model} {A : Around} {E : Value → Shared → Prop} {s : Shared} {env : Env} {F : Option Addr} {e : Expr} {scope : Scope} {pos : Pos} {newAcc first : Sem Value} {cm : Comprehension} {cms : List Comprehension} {cl : List (Str × Addr)} {u : Value → Sem Unit} {Q : Value → Shared → Prop}
    (c1 : clausesOf e = cm :: cms) (c2 : ∀ x, foldedSetIterable cm.iter env x = pure x) (c3 : closureFor scope env = pure cl) (c4 : scope.kind = .function) (c5 : ∀ x ∈ scope.names, x.2 = .local → scope.names.lookup x.1 = some .local)
    (run : wpAny M A first (fun x s1 => wpAny M A (pyIter x) (fun it s2 => wpAny M A newAcc (fun acc s3 => wpAny M A (newFunctionEnv scope env.globals cl [] env.qual none .none (some env))
      (fun ce s4 => ce.frame = F ∧ codeAny M A (.compStart e 0 it acc { ce with scope := relabel scope env }) (cPost M A E F u Q acc ce.locals) s4) E s3) E s2) E s1) E s) :
    wpAny M A (comprehension e scope env pos newAcc false first (some u)) Q E s := by
  unfold comprehension
  rw [c3, c1]
  refine wpAny_bind (wpAny_mono run ?_ fun _ _ z => z)
  intro x s1 r1
  refine wpAny_bind (wpAny_standAt (wpAny_bind (wpAny_of_eq (c2 x) ?_)))
  refine wpAny_bind (wpAny_holding (wpAny_mono r1 ?_ fun _ _ z => z))
  intro it s2 r2
  refine wpAny_standIf (wpAny_bind (wpAny_mono r2 ?_ fun _ _ z => z))
  intro acc s3 r3
  refine wpAny_bind (wpAny_pure (wpAny_bind (wpAny_mono r3 ?_ fun _ _ z => z)))
  intro ce s4 r4
  obtain ⟨fF, r4⟩ := r4
  dsimp only
  obtain ⟨vars, ev⟩ : ∃ vars, vars = (scope.names.filter fun x => (x.2 == .local || x.2 == .cell) && x.1 != (".0" : Str)).reverse := ⟨_, rfl⟩
  have lk : ∀ x ∈ vars, x.2 = .local → Env.kindOf { ce with scope := relabel scope env } x.1 = some .local := fun x hx hl => lookup_relabel_local (c5 x (List.mem_filter.mp (List.mem_reverse.mp (ev ▸ hx))).1 hl)
  have lk2 : ∀ x ∈ vars.drop 1 ++ vars.take 1, x.2 = .local → Env.kindOf { ce with scope := relabel scope env } x.1 = some .local := fun x hx hl =>
    (List.mem_append.mp hx).elim (fun y => lk x (List.mem_of_mem_drop y) hl) fun y => lk x (List.mem_of_mem_take y) hl
  refine wpAny_holding (wpAny_bind (wpAny_attempt (wpAny_holding (wpAny_run (codeAny_mono r4 fun r s5 hr => ?_)))))
  cases r with
  | ok fl =>
    refine wpAny_bind (wpAny_rule (wpAny_bind (wpAny_holding (wpAny_mono hr ?_ fun _ _ z => z))))
    rintro _ s6 ⟨m, hm, hq⟩
    subst ev
    exact wpAny_bind (wpAny_comp_letGo (cenv := { ce with scope := relabel scope env }) c4 _ s6 m lk2 hm fun g _ _ sb => wpAny_pure (hq g sb))
  | error x =>
    obtain ⟨m, hm, hq⟩ := hr
    subst ev
    exact wpAny_bind (wpAny_holding (wpAny_comp_letGo (cenv := { ce with scope := relabel scope env }) c4 _ s5 m lk hm fun g _ _ sb => wpAny_mono (hq g sb { ce with scope := relabel scope env } fF) (fun _ _ z => z.elim) fun _ _ z => z))
/-- a block's context that lets a call's exception out -/
abbrev blkE (X : Cx) (Ew : XK) (s : Shared) (H : Hp) (scope : Scope) (ce : Env) (fp : List Addr) : Cx :=
  { X.blk s H scope ce fp with xe := fun u s' => ∃ (pins : List (Addr × Obj)) (σ : L2.St) (H1 : Hp) (s1 : Shared), Inv (X.blk s H scope ce fp) pins σ H1 s1 ∧ L2.CX X.prog X.w X.stack H1 s1 Ew u s' }
theorem Inv.xe {X : Cx} {e : Value → Shared → Prop} {pins : List (Addr × Obj)} {σ : L2.St} {H : Hp} {s : Shared} (I : Inv X pins σ H s) : Inv { X with xe := e } pins σ H s :=
  ⟨⟨I.ok.mod, I.ok.kind, I.ok.glob, I.ok.blt, I.ok.above, I.ok.inj, I.ok.has, I.ok.cab, I.ok.hd, I.ok.frames, I.ok.stk, I.ok.exf, I.ok.bs, I.ok.bsz, I.ok.noex, I.ok.exfs, I.ok.funs, I.ok.frf⟩, I.os, I.bare, I.base, I.loc, I.cell, I.free, I.freeC, I.pin, I.hok, I.len⟩
theorem passB {X : Cx} {Ew : XK} {s : Shared} {H : Hp} {scope : Scope} {ce : Env} {fp : List Addr} : Passes (L2.CX X.prog X.w) (blkE X Ew s H scope ce fp) Ew := fun pins σ H1 s1 e s' I c =>
  ⟨pins, σ, H1, s1, Inv.xe (X := blkE X Ew s H scope ce fp) (e := fun _ _ => False) I, c⟩
theorem frames_ne {h g B : Heap} {C : Addr} (k : ∀ b, b ≠ C → g.get? b = h.get? b) : ∀ {l : List Env}, C ∉ frs l → h.FunFrames B l → g.FunFrames B l
  | [], _, _ => trivial
  | en :: r, hn, ⟨q1, ⟨L, o, q2, q3, q4, q5⟩, q6⟩ => by
    have m : ∀ x, x ∈ frs r → x ∈ frs (en :: r) := fun x hx => by
      obtain ⟨y, hy, e⟩ := List.mem_filterMap.mp hx
      exact List.mem_filterMap.mpr ⟨y, List.mem_cons_of_mem _ hy, e⟩
    have nL : L ≠ C := fun z => hn (z ▸ List.mem_filterMap.mpr ⟨en, List.mem_cons_self, q2⟩)
    exact ⟨q1, ⟨L, o, q2, q3, (k L nL).trans q4, q5⟩, frames_ne k (fun w => hn (m C w)) q6⟩
section
variable {X : Cx} {Ew : XK}
/-- the exception goes on out of the comprehension -/
theorem blk_err {s3 s1 s5 : Shared} {H3 H1 : Hp} {scope : Scope} {ce : Env} {fp : List Addr} {pins pins1 : List (Addr × Obj)} {σ σ1 : L2.St} {x : Value} {u : Value → Sem Unit} {Qf : Value → Shared → Prop} {acc : Value}
    (hst : X.stack = X.env :: X.outer) (hfr : X.env.frame = some X.env.locals) (tk : Takes X fun cls d _ H => Ew cls d H) (I3 : Inv X pins σ H3 s3) (f3 : ∀ b ∈ fp, FpOk X pins H3 b) (cL : ce.locals = s3.heap.objs.size) (cF : ce.frame = X.env.frame)
    (I1 : Inv (X.blk s3 H3 scope ce fp) pins1 σ1 H1 s1) (c : L2.CX X.prog X.w X.stack H1 s1 Ew x s5) :
    notedBy (model X.prog X.w) X.A ce (fun e s6 => cPost (model X.prog X.w) X.A X.xe X.env.frame u Qf acc s3.heap.objs.size (.error e) s6) x s5 := by
  obtain ⟨a, B, H2, cls, d, rfl, fl, hok, ub, na, os, ag, hE⟩ := c
  have fA : X.A.frames = some (X.env :: X.outer) := by rw [I3.ok.frames, hst]
  have fl2 : HandSPX.FlyingZ B (X.env :: X.outer) a (Zc cls d) s5.heap := hst ▸ fl
  obtain ⟨C, hC⟩ : ∃ C, C = s3.heap.objs.size := ⟨_, rfl⟩
  rw [← hC] at cL ⊢
  show wpAny _ _ (noteFrame (.ref a) ce) _ _ _
  have eN : noteFrame (.ref a) ce = noteFrame (.ref a) X.env := by unfold noteFrame PySem.frameOf; rw [cF]
  rw [eN]
  refine HandSPX.looks_onZ Zc.steady fA hfr fl2 fun h2 held up2 => ?_
  have c1 : H1 C = none := by rw [← cL]; exact I1.free
  obtain ⟨m, ⟨o, es, ep, ho, rr⟩, _⟩ := I1.loc
  have ho : s1.heap.get? C = some o := by rw [← cL]; exact ho
  have cfr : C ∉ frs X.stack := fun w => by
    rcases List.mem_cons.mp (I3.stkSub C w) with z | z
    · have := I3.lt
      rw [← z, hC] at this
      exact Nat.lt_irrefl _ this
    · exact I3.nofs (by rw [hC]; exact Nat.le_refl _) z
  have cB : B.get? C = some o := ub.keep C o ho c1 cfr
  have c2 : H2 C = none := ub.free C o ho c1
  refine ⟨m, ⟨o, es, ep, held.1 C o cB, rr⟩, fun h3 sb ce2 fF => ?_⟩
  -- the ground without the block's own dict
  obtain ⟨B2, hB2⟩ : ∃ B2, B2 = PySem.W.hideAll B [C] := ⟨_, rfl⟩
  have b2B : ∀ b o, B2.get? b = some o → B.get? b = some o ∧ b ≠ C := fun b o e => by
    rw [hB2] at e
    refine ⟨PySem.W.of_hideAll _ e, fun z => ?_⟩
    rw [z, PySem.W.hideAll_none [C] List.mem_cons_self] at e
    cases e
  have Bb2 : ∀ b o, B.get? b = some o → b ≠ C → B2.get? b = some o := fun b o e n => by
    rw [hB2]
    exact PySem.W.hideAll_get _ e fun w => n (List.mem_singleton.mp w)
  have n2 : ∀ b, B.get? b = none → B2.get? b = none := fun b e => by
    cases q : B2.get? b with
    | none => rfl
    | some o => rw [(b2B b o q).1] at e; cases e
  have nC : ∀ b, B.get? b = none → b ≠ C := fun b e z => by rw [z, cB] at e; cases e
  have h23 : ∀ b, b ≠ C → h3.get? b = h2.get? b := sb.2
  have frn : ∀ L ∈ frs X.stack, B.get? L = none := fun L hL => by
    rw [hst] at hL
    exact (held.2.2.1.mem hL).1
  have held3 : HandSPX.HeldZ B2 (X.env :: X.outer) a (Zc cls d) X.env.locals h3 := by
    obtain ⟨k1, k2, k3, oe, vs, T, oT, ts, t1, t2, t3, t4, t5, t6, t7, t8, t9⟩ := held
    refine ⟨fun b o e => ?_, n2 a k2, ?_, oe, vs, T, oT, ts, ?_, t2, t3, t4, n2 T t5, t6, ?_, t8, t9⟩
    · rw [h23 b (b2B b o e).2]
      exact k1 b o (b2B b o e).1
    · exact frames_ne h23 (hst ▸ cfr) (funFrames_none k3 fun L hL => n2 L (frn L (hst ▸ hL)))
    · rw [h23 a (nC a k2)]; exact t1
    · rw [h23 T (nC T t5)]; exact t7
  have hs3 := held3
  obtain ⟨_, _, _, oe, vs, T, oT, ts, t1, t2, t3, t4, _⟩ := hs3
  unfold PySem.passOn
  refine wpAny_bind (wpAny_field t1 t3 t4 ?_)
  rw [if_neg (show ¬ ((Value.ref T == Value.none) = true) from by simp)]
  rw [fF, hfr]
  refine wpAny_bind (HandSPX.setFlight_onZ held3 fun h4 held4 up4 => wpAny_throw ?_)
  -- in the air of the def
  obtain ⟨G, g1, g2⟩ := restrict h4 fun b => (B2.get? b).isSome || decide (b ∈ frs X.stack)
  have gB : ∀ b o, B2.get? b = some o → G.get? b = some o := fun b o e => by
    rw [g1 b (by simp [e])]
    exact held4.1 b o e
  have gF : ∀ b, b ∈ frs X.stack → G.get? b = h4.get? b := fun b hb => g1 b (by simp [hb])
  have og : ∀ b o, G.get? b = some o → h4.get? b = some o ∧ ((B2.get? b).isSome = true ∨ b ∈ frs X.stack) := fun b o e => by
    cases q : ((B2.get? b).isSome || decide (b ∈ frs X.stack)) with
    | false => rw [g2 b q] at e; cases e
    | true =>
      rw [g1 b q] at e
      exact ⟨e, by simpa [Bool.or_eq_true] using q⟩
  have bs : Un (frs X.stack) fp H3 H1 s3.heap s1.heap := I1.base
  have ltC : ∀ b o, s3.heap.get? b = some o → b ≠ C := fun b o e z => by
    have := Heap.lt_size e
    rw [z, hC] at this
    exact Nat.lt_irrefl _ this
  have ffp : ∀ b ∈ frs X.stack, b ∉ fp := fun b hb w => by
    obtain ⟨_, z1, z2, _⟩ := f3 b w
    rcases List.mem_cons.mp (I3.stkSub b hb) with z | z
    · exact z1 z
    · exact z2 z
  have slot : ∀ b o, s3.heap.get? b = some o → b ∈ frs X.stack → ∃ sl, G.get? b = some { o with slots := sl } := fun b o e hb => by
    obtain ⟨_, o9, e9, nf9⟩ := I3.stack.mem hb
    rw [e] at e9
    have nf : ∀ vs, o.data ≠ .fields vs := by rw [Option.some.inj e9]; exact nf9
    obtain ⟨l1, e1⟩ := bs.slot b o e (I3.stkFree b hb) hb (ffp b hb)
    obtain ⟨l2, e2⟩ := ub.slot b _ e1 hb
    obtain ⟨l3, e3⟩ := up2 b _ e2 nf
    have e4 := (h23 b (ltC b o e)).trans e3
    obtain ⟨l5, e5⟩ := up4 b _ e4 nf
    exact ⟨l5, (gF b hb).trans e5⟩
  have hok2 : HOk X.prog X.w H2 G := fun b o q => by
    refine ((hok b o q).stay (h' := B2) (fun y v hy r => Bb2 y v r fun z => ?_) (fun _ r => r) (fun _ _ r => r)).stay (fun y v _ r => gB y v r) (fun _ r => r) fun _ _ r => r
    rcases hy with hy | hy
    · rw [hy] at z; rw [z, c2] at q; cases q
    · rw [z, c2] at hy; cases hy
  have IG : Inv X pins σ H2 { s3 with heap := G, gens := s5.gens, drawn := s5.drawn, toks := s5.toks } := by
    refine I3.call (ch := fp) ⟨fun b o e n hb hc => ?_, fun b o e n hb hc => slot b o e hb, fun b o e n hc => ?_, fun b o e hc => ?_, fun b v e => ub.tups b v (bs.tups b v e), fun b v w e => ub.frzs b v w (bs.frzs b v w e), fun b ps e => ?_⟩ hok2 ag (fun b hb => ?_)
    · exact gB b o (Bb2 b o (ub.keep b o (bs.keep b o e n hb hc) (bs.free b o e n hc) hb) (ltC b o e))
    · by_cases hb : b ∈ frs X.stack
      · obtain ⟨sl, q⟩ := bs.slot b o e n hb hc
        exact ub.free b _ q (bs.free b o e n hc)
      · exact ub.free b o (bs.keep b o e n hb hc) (bs.free b o e n hc)
    · by_cases hb : b ∈ frs X.stack
      · obtain ⟨sl, q⟩ := slot b o e hb
        exact ⟨_, q⟩
      · obtain ⟨o1, q1⟩ := bs.there b o e hc
        obtain ⟨o2, q2⟩ := ub.there b o1 q1 hb
        exact ⟨o2, gB b o2 (Bb2 b o2 q2 (ltC b o e))⟩
    · obtain ⟨m1, q1⟩ := bs.tbls b ps e
      obtain ⟨m2, q2⟩ := ub.tbls b _ q1
      exact ⟨m1 ++ m2, by rw [q2, Array.append_assoc]⟩
    · obtain ⟨_, z1, _, z3, z4, z5⟩ := f3 b hb
      exact ⟨z3, z1, z4, z5⟩
  refine tk _ _ ⟨a, B2, _, pins, σ, H2, cls, d, rfl, IG, fun b o e hb => ?_, fun b o e nf => ⟨o.slots, (og b o e).1⟩, ?_, na, os.trans I1.os, ag, hE⟩
  · obtain ⟨e1, e2⟩ := og b o e
    rcases e2 with w | w
    · obtain ⟨o2, q⟩ := Option.isSome_iff_exists.mp w
      have z := held4.1 b o2 q
      rw [e1] at z
      cases z
      exact q
    · exact absurd w hb
  · rw [hst]
    exact .inr (.inr held4)
/-- the block walked: each turn may let a call's exception out -/
theorem dc_out {pins : List (Addr × Obj)} {s : Shared} {σ : L2.St} {H : Hp} {Q : VK} {ke ve tg iter : Expr} {cs : List Expr} {sc : Scope} {ow : List (Str × Nat)} {p p2 : Pos} {wi : TI} {gt : TG} {ct : TT} {kt vt : TE} {u : Value → Sem Unit} {Qf : Value → Shared → Prop}
    (cm : X.calm = true) (ndN : X.N.Nodup) (hst : X.stack = X.env :: X.outer) (hfr : X.env.frame = some X.env.locals) (tk : Takes X fun cls d _ H => Ew cls d H) (J : Inv X pins σ H s) (pit : L2.PI X tg iter wi) (bo : BlkOk X.N X.env.scope sc ow)
    (pg : ∀ s H C cl fp, PG (blkE X Ew s H sc (compEnvC sc cl C X.env) fp) tg gt) (pt : ∀ s H C cl fp, PTs (blkE X Ew s H sc (compEnvC sc cl C X.env) fp) cs ct)
    (pk : ∀ s H C cl fp, PE (blkE X Ew s H sc (compEnvC sc cl C X.env) fp) ke kt) (pv : ∀ s H C cl fp, PE (blkE X Ew s H sc (compEnvC sc cl C X.env) fp) ve vt) (nf : ∀ x, foldedSetIterable iter X.env x = pure x)
    (hd : tDc wi gt ct kt vt (ow.map (·.2)) σ H Q)
    (fin : ∀ D C s1 m H1, Inv X pins σ H1 s1 → Q (.ref D) H1 → s1.heap.Ns C m → FpOk X pins H1 C → wpAny (model X.prog X.w) X.A (u (.ref D)) (fun _ s2 => ∃ m, s2.heap.Ns C m ∧ ∀ g, Heap.SameBut C s2.heap g → Qf .none { s2 with heap := g }) X.xe s1) :
    wpAny (model X.prog X.w) X.A (comprehension (.DictComp ke ve [⟨tg, iter, cs, 0⟩] sc p) sc X.env p2 newDict false (eval iter X.env) (some u)) Qf X.xe s := by
  have caught : ∀ y ∈ sc.names, y.2 = .free → ∃ c, X.env.cells.lookup y.1 = some c := fun y hy e => (bo.free y hy e).elim (fun q => J.ok.has _ (.inl q)) fun q => J.ok.has _ (.inr q)
  refine comp_frame (F := X.env.frame) rfl nf (closure_ok caught) bo.kind (fun y hy e => by rw [bo.uniq y hy, e]) (thn (pit.run pins s σ H _ J hd) fun xv sa ha => thn ha fun itv sb hb => ?_)
  obtain ⟨ia, fp, tn, R, Hb, rfl, Jb, T, tb, fb, q⟩ := hb
  refine wpAny_newObj_type (newEnv_comp ⟨rfl, ?_⟩)
  obtain ⟨D, eD⟩ : ∃ D, sb.heap.objs.size = D := ⟨_, rfl⟩
  rw [eD]
  have nD : Hb D = none := Jb.hok.fresh (Nat.le_of_eq eD)
  obtain ⟨W, ⟨k0, w0⟩, turn⟩ := q D nD
  obtain ⟨sc3, e3⟩ : ∃ s3 : Shared, ({ sb with heap := sb.heap.push { cls := .type "dict", data := .dict #[] } } : Shared) = s3 := ⟨_, rfl⟩
  rw [e3]
  obtain ⟨H3, eH3⟩ : ∃ H3, upd Hb D (.dK []) = H3 := ⟨_, rfl⟩
  have J3 : Inv X pins σ H3 sc3 := by
    rw [← e3, ← eH3]
    refine Jb.laid (t' := sb.toks) (fun b o e => Heap.get?_push_of_some _ e) (Nat.le_of_eq eD) ?_
    rw [← eD]
    exact dk_empty sb.heap Jb.big
  have h3 : sc3.heap = sb.heap.push { cls := .type "dict", data := .dict #[] } := by rw [← e3]
  have young : ∀ b ∈ fp, b < sb.heap.objs.size := fun b hb => (T.obj _ _ tb b hb).elim fun o e => Heap.lt_size e.1
  have f3 : ∀ b ∈ fp, FpOk X pins H3 b ∧ b < sc3.heap.objs.size := fun b hb => by
    have lt := young b hb
    refine ⟨⟨?_, (fb b hb).2⟩, by rw [h3, Heap.size_push]; exact Nat.lt_succ_of_lt lt⟩
    rw [← eH3, upd_ne (by rw [← eD]; exact Nat.ne_of_lt lt)]
    exact (fb b hb).1
  have t3 : tn 0 sc3.heap := T.keep _ _ _ tb fun b _ o e => by rw [h3]; exact Heap.get?_push_of_some _ e
  obtain ⟨ccl, ecl⟩ : ∃ ccl, cellsFrom (sc3.heap.objs.size + 1) sc.names (cloFrom X.env.cells sc.names []) = ccl := ⟨_, rfl⟩
  have J4 := block_start J3 bo ndN f3
  rw [ecl] at J4 ⊢
  obtain ⟨s4, e4⟩ : ∃ s4 : Shared, ({ sc3 with heap := pushCells (sc3.heap.push { cls := .type "dict", data := .dict #[] }) sc.names } : Shared) = s4 := ⟨_, rfl⟩
  rw [e4] at J4 ⊢
  have t4 : tn 0 s4.heap := T.keep _ _ _ t3 fun b _ o e => by rw [← e4]; exact pushCells_keeps _ _ _ _ (Heap.get?_push_of_some _ e)
  obtain ⟨ce, ece⟩ : ∃ ce, compEnvC sc ccl sc3.heap.objs.size X.env = ce := ⟨_, rfl⟩
  have g1 := pg sc3 H3 sc3.heap.objs.size ccl fp
  have g2 := pt sc3 H3 sc3.heap.objs.size ccl fp
  have g3 := pk sc3 H3 sc3.heap.objs.size ccl fp
  have g4 := pv sc3 H3 sc3.heap.objs.size ccl fp
  show codeAny _ _ (.compStart (.DictComp ke ve [⟨tg, iter, cs, 0⟩] sc p) 0 (.ref ia) (.ref D) (compEnvC sc ccl sc3.heap.objs.size X.env)) (cPost (model X.prog X.w) X.A X.xe X.env.frame u Qf (.ref D) sc3.heap.objs.size) s4
  have cL : ce.locals = sc3.heap.objs.size := by rw [← ece]; rfl
  have cF : ce.frame = X.env.frame := by rw [← ece]; rfl
  rw [ece] at J4 g1 g2 g3 g4 ⊢
  rw [eH3] at w0
  have J4e : Inv (blkE X Ew sc3 H3 sc ce fp) [] (wipe σ (ow.map (·.2))) H3 s4 := Inv.xe J4
  have n3 : ∀ b ∈ fp, H3 b = none := fun b hb => (f3 b hb).1.1
  -- an exception of a turn
  have ex : ∀ (x : Value) (s9 : Shared), (blkE X Ew sc3 H3 sc ce fp).xe x s9 → notedBy (model X.prog X.w) X.A ce (fun e s6 => cPost (model X.prog X.w) X.A X.xe X.env.frame u Qf (.ref D) sc3.heap.objs.size (.error e) s6) x s9 := fun x s9 ⟨pn1, σ1, H1, s1, I1, c⟩ =>
    blk_err hst hfr tk J3 (fun b hb => (f3 b hb).1) cL cF I1 c
  have own : ∀ {σ' : L2.St} {H' : Hp} {s' : Shared}, Inv (blkE X Ew sc3 H3 sc ce fp) [] σ' H' s' → (∀ b ∈ fp, H' b = none) → ∀ b ∈ fp, FpOk (blkE X Ew sc3 H3 sc ce fp) [] H' b := fun {σ' H' s'} I hn b hb =>
    ⟨hn b hb, (I.ok.exf b hb).1, I.ok.exfs b hb, .inl hb, fun x c e => (I.ok.exf b hb).2 x c e, fun y hy => absurd (show y ∈ ([] : List (Addr × Obj)) ++ [] from hy) (by simp)⟩
  have loop : codeAny (model X.prog X.w) X.A (.compLoop (.DictComp ke ve [⟨tg, iter, cs, 0⟩] sc p) 0 (.ref ia) (.ref D) ce) (cPost (model X.prog X.w) X.A X.xe X.env.frame u Qf (.ref D) sc3.heap.objs.size) s4 := by
    refine compLoop_anyD (fun n s5 => ∃ i H5, Inv (blkE X Ew sc3 H3 sc ce fp) [] (wipe σ (ow.map (·.2))) H5 s5 ∧ tn i s5.heap ∧ (∀ b ∈ fp, H5 b = none) ∧ W i n H5) ?_ k0 ⟨0, H3, J4e, t4, n3, w0⟩
    rintro n s5 ⟨i, H5, J5, t5, n5, w5⟩
    rcases turn i n H5 w5 with ⟨stop, qq⟩ | ⟨go, Nx, hNx, step⟩
    · refine thnF (T.done (blkE X Ew sc3 H3 sc ce fp) rfl rfl rfl cm i [] s5 _ H5 (fun _ _ => False) J5 (own J5 n5) t5 stop) fun r s6 ⟨hr, J6⟩ => ?_
      subst hr
      have J7 : Inv X pins σ H5 s6 := J3.call' (ch := fp) J6.os J6.base J6.hok J6.bare fun b hb => ⟨(f3 b hb).1.2.2.2.1, (f3 b hb).1.2.1, (f3 b hb).1.2.2.2.2.1, (f3 b hb).1.2.2.2.2.2⟩
      have nC : H5 sc3.heap.objs.size = none := by rw [← cL]; exact J6.free
      obtain ⟨m, hm, _⟩ := J6.loc
      have hm : s6.heap.Ns ce.locals m := hm
      rw [cL] at hm
      exact fin D sc3.heap.objs.size s6 m H5 J7 qq hm (J3.fpOk (Nat.le_refl _) nC)
    · refine thnF (T.item (blkE X Ew sc3 H3 sc ce fp) rfl rfl rfl cm i [] s5 _ H5 (fun _ _ => False) J5 (own J5 n5) t5 go) fun r s6 ⟨v, hr, h6⟩ => ?_
      subst hr
      refine thnF h6 fun _ s7 ⟨x, H7, J7, r7, y7, t7, n7⟩ => ?_
      have J7p := J7.pinned (own J7 n7) (T.obj _ _ t7)
      refine wpAny_mono (g1.run _ s7 _ H7 x v _ J7p r7 (step x H7 y7)) (fun _ s8 ⟨σ8, H8, J8, hw8, q8⟩ => ?_) ex
      refine wpAny_mono (g2.run _ s8 σ8 H8 _ J8 q8) (fun b s9 ⟨H9, J9, q9⟩ => ?_) ex
      have next : ∀ {s' : Shared} {H' : Hp}, Inv (blkE X Ew sc3 H3 sc ce fp) ([] ++ pinsAt fp s7.heap) σ8 H' s' → Nx H' → ∃ m, m < n ∧ ∃ i H', Inv (blkE X Ew sc3 H3 sc ce fp) [] (wipe σ (ow.map (·.2))) H' s' ∧ tn i s'.heap ∧ (∀ b ∈ fp, H' b = none) ∧ W i m H' := fun {s' H'} I nx => by
        obtain ⟨m, hm, w'⟩ := hNx H' nx
        have keeps : ∀ b ∈ fp, ∀ o, s7.heap.get? b = some o → s'.heap.get? b = some o ∧ H' b = none := fun b hb o e =>
          ⟨(I.pin (b, o) (List.mem_append_right _ (List.mem_append_right _ (mem_pinsAt hb e)))).1, (I.pin (b, o) (List.mem_append_right _ (List.mem_append_right _ (mem_pinsAt hb e)))).2.1⟩
        have len : (wipe σ (ow.map (·.2))).length = σ8.length := by rw [← hw8, wipe_length]
        refine ⟨m, hm, i + 1, H', (I.unpinned (pins := [])).weak len (fun j v e => (wipe_some (hw8 ▸ e)).1), T.keep _ _ _ t7 fun b hb o e => (keeps b hb o e).1, fun b hb => ?_, w'⟩
        obtain ⟨o, e, _⟩ := T.obj _ _ t7 b hb
        exact (keeps b hb o e).2
      cases b with
      | false =>
        simp only [Bool.false_eq_true, if_false] at q9 ⊢
        exact next J9 q9
      | true =>
        simp only [if_true] at q9 ⊢
        refine wpAny_mono (g3.run _ s9 σ8 H9 _ J9 q9) (fun y s10 ⟨yk, H10, J10, r10, q10⟩ => ?_) ex
        refine wpAny_mono (g4.run _ s10 σ8 H10 _ J10 q10) (fun y2 s11 ⟨yv, H11, J11, r11, kvs, k, ek, d11, z11, nx⟩ => ?_) ex
        subst ek
        exact d_dictSet (X := blkE X Ew sc3 H3 sc ce fp) J11 d11 z11 r10 r11 fun s12 J12 => next J12 nx
  exact codeAny_compStart_dict loop (T.self X.A 0 _ _ _ t4 loop)
/-- name = {k: v for target in iter}, where a key's or a value's call may raise what the def may raise -/
theorem ps_setDcX {j : Nat} {z : Str} {pz p pst : Pos} {ke ve tgt it : Expr} {cs : List Expr} {sc : Scope} {ow : List (Str × Nat)} {wt : TI} {gt : TG} {ct : TT} {kt vt : TE} (cm : X.calm = true) (ndN : X.N.Nodup) (zj : X.N[j]? = some z) (zl : X.env.scope.names.lookup z = some .local)
    (sw : swapsWith (.DictComp ke ve [⟨tgt, it, cs, 0⟩] sc p) (some (.Name z pz)) pst.line X.env = pure true) (hst : X.stack = X.env :: X.outer) (hfr : X.env.frame = some X.env.locals) (tk : Takes X fun cls d _ H => Ew cls d H) (pit : L2.PI X tgt it wt) (bo : BlkOk X.N X.env.scope sc ow)
    (pg : ∀ s H C cl fp, PG (blkE X Ew s H sc (compEnvC sc cl C X.env) fp) tgt gt) (pt : ∀ s H C cl fp, PTs (blkE X Ew s H sc (compEnvC sc cl C X.env) fp) cs ct)
    (pk : ∀ s H C cl fp, PE (blkE X Ew s H sc (compEnvC sc cl C X.env) fp) ke kt) (pv : ∀ s H C cl fp, PE (blkE X Ew s H sc (compEnvC sc cl C X.env) fp) ve vt) (nf : ∀ x, foldedSetIterable it X.env x = pure x := by intro _; rfl) :
    PS X (.Assign [.Name z pz] (.DictComp ke ve [⟨tgt, it, cs, 0⟩] sc p) pst) (tAsg (tDc wt gt ct kt vt (ow.map (·.2))) (gName j)) := by
  refine ⟨fun pn s0 st H0 En J hd => ?_⟩
  have hd' : tDc wt gt ct kt vt (ow.map (·.2)) st H0 (fun x H1 => gName j x st H1 En.nx) := hd
  rw [PySem.exec_Assign_Name_used _ _ _ _ sw]
  refine wpAny_bind (wpAny_standAt (wpAny_bind ?_))
  refine wpAny_bind (thn (dc_out (u := assign (.Name z pz) X.env) (Qf := fun _ s' => SP X pn En .next s') (p2 := firstIterPos [⟨tgt, it, cs, 0⟩] p) cm ndN hst hfr tk J pit bo pg pt pk pv nf hd' fun L C s1 m H1 J1 q1 hn fo => ?_) fun _ s2 hq => wpAny_pure (wpAny_pure hq))
  refine wpAny_assign_Name (store_ok2 (v := V.ref L) J1 ndN zj (.inl zl) rfl (fun s2 J2 ⟨a, sb, ha⟩ => ?_) (.inr zl))
  obtain ⟨g0, g1, g2, g3, g4, g5⟩ := fo
  refine ⟨m, hn.sameBut sb (by rcases ha with e | e; (rw [e]; exact g1); exact fun w => g4 z a e w.symm), fun h3 sb3 => ⟨_, H1, J2.turned (t' := s2.toks) (fun b o hb e => (sb3.2 b hb).trans e) g0 g1 g3 g4 g5, q1⟩⟩
end
end Aw

namespace Aw
open PySem L2 PySem.Spec PyProof.Rows
/-! ### except clauses, each with a name or without: what a list of them wishes is told clause by clause -/
/-- an exception that has come down to the clauses of X -/
structure Down (X : Cx) (pins : List (Addr × Obj)) (a : Addr) (B : Heap) (sI s : Shared) (h : Heap) (σ : L2.St) (H : Hp) (cls : Value) (d : Option Addr) : Prop where
  hs : X.stack = X.env :: X.outer
  hf : X.env.frame = some X.env.locals
  inv : Inv X pins σ H sI
  nb : ∀ b o, sI.heap.get? b = some o → b ∉ frs X.stack → B.get? b = some o
  up : sI.heap.UpToSlots h
  fl : HandSPX.FlyingZ B (X.env :: X.outer) a (Zc cls d) h
  na : H a = none
  os : s.os = sI.os
  ag : AllBare s.gens
section
variable {X : Cx} {pins : List (Addr × Obj)} {a : Addr} {B : Heap} {sI s : Shared} {h : Heap} {σ : L2.St} {H : Hp} {cls : Value} {d : Option Addr}
theorem Down.off (D : Down X pins a B sI s h σ H cls d) : a ≠ X.env.locals ∧ a ∉ X.fs := by
  obtain ⟨oe, vs, he, hz, hd⟩ := D.fl.there
  have key : a ∉ frs (X.env :: X.outer) := fun hm => by
    obtain ⟨_, o', e', n⟩ := D.fl.2.2.1.mem hm
    rw [he] at e'
    cases e'
    exact n _ hd
  refine ⟨fun z => key (List.mem_filterMap.mpr ⟨X.env, List.mem_cons_self, by rw [D.hf, z]⟩), fun hm => ?_⟩
  obtain ⟨e, he', q⟩ := List.mem_filterMap.mp hm
  exact key (List.mem_filterMap.mpr ⟨e, List.mem_cons_of_mem _ he', q⟩)
theorem Down.now (D : Down X pins a B sI s h σ H cls d) : Inv X pins σ H { s with heap := h } := D.inv.landed D.nb D.fl.1 D.up D.os D.ag
theorem Down.suite (D : Down X pins a B sI s h σ H cls d) : ∃ oe, Zc cls d oe ∧ (∃ vs, oe.data = .fields vs) ∧ h.get? a = some oe ∧ Inv (X.suite a ((a, oe) :: (X.pn ++ pins))) [] σ H { s with heap := h } := by
  obtain ⟨oe, vs, he, hz, hd⟩ := D.fl.there
  exact ⟨oe, hz, ⟨_, hd⟩, he, D.now.suite he hd D.na D.off.1 D.off.2⟩
end
abbrev WL := WX → Ends → WX
/-- a list of clauses does as W wishes -/
structure ClOk (X : Cx) (hds : List ExceptHandler) (W : WL) : Prop where
  run : ∀ {Wout : WX} (tk : Takes X Wout) {pins : List (Addr × Obj)} {a : Addr} {B : Heap} {sI s : Shared} {h : Heap} {σ : L2.St} {H : Hp} {cls : Value} {d : Option Addr} {D : Ends},
  Down X pins a B sI s h σ H cls d → W Wout D cls d σ H → wpAny (model X.prog X.w) X.A (handleBy (.ref a) X.env hds) (SP X pins D) X.xe { s with heap := h }
def wNil : WL := fun Wout _ => Wout
def wCl (K : PySem.W.Frag) (c : Value) (ts : Addr → Value → Option Addr → TS) (R : WL) : WL := fun Wout D cls d σ H => ∃ b, PySem.W.exmOne K cls c = some b ∧ (b = true → ∀ a, H a = none → ts a cls d D σ H) ∧ (b = false → R Wout D cls d σ H)
def wClAs (K : PySem.W.Frag) (c : Value) (i : Nat) (ts : Addr → Value → Option Addr → TS) (R : WL) : WL := fun Wout D cls d σ H => ∃ b, PySem.W.exmOne K cls c = some b ∧
  (b = true → ∀ a, H a = none → ts a cls d { nx := fun σ' H' => D.nx (σ'.set i none) H', rt := D.rt, bk := fun σ' H' => D.bk (σ'.set i none) H', ct := fun σ' H' => D.ct (σ'.set i none) H' } (σ.set i (some (.ref a))) H) ∧ (b = false → R Wout D cls d σ H)
section
variable {X : Cx}
theorem cl_nil : ClOk X [] wNil := by
  refine ⟨?_⟩
  intro Wout tk pins a B sI s h σ H cls d D dn w
  refine wpAny_handleBy_nil ?_
  obtain ⟨k1, k2, k3, oe, vs, T, oT, ts, he, hz, hd, h1, hr⟩ := id dn.fl
  unfold PySem.passOn
  refine wpAny_bind (wpAny_field he hd h1 ?_)
  rw [if_neg (show ¬ ((Value.ref T == Value.none) = true) from by simp)]
  have fin : wpAny (model X.prog X.w) X.A (setFlight (.ref a) X.env.frame) (fun _ s4 => wpAny (model X.prog X.w) X.A (throw (.ref a) : Sem Flow) (SP X pins D) X.xe s4) X.xe { s with heap := h } := by
    rw [dn.hf]
    exact HandSPX.setFlight_upZ dn.fl fun h4 hh4 up4 => wpAny_throw (tk _ _ ⟨a, B, sI, pins, σ, H, cls, d, rfl, dn.inv, dn.nb, dn.up.trans up4, .inr (.inr (by rw [dn.hs]; exact hh4)), dn.na, dn.os, dn.ag, w⟩)
  first
    | exact wpAny_bind (wpAny_pure (wpAny_bind fin))
    | exact wpAny_bind fin
/-- the test of a clause -/
theorem cl_test {x : Str} {c : Value} {np : Pos} (hc : Names X x c) {pins : List (Addr × Obj)} {a : Addr} {B : Heap} {sI s : Shared} {h : Heap} {σ : L2.St} {H : Hp} {cls : Value} {d : Option Addr} (dn : Down X pins a B sI s h σ H cls d)
    {Q E : Value → Shared → Prop} (q : Q c { s with heap := h }) : wpAny (model X.prog X.w) (X.A.mark (some (.ref a))) (eval (.Name x np) X.env) Q E { s with heap := h } := by
  obtain ⟨oe, hz, hd, he, S⟩ := dn.suite
  obtain ⟨hg, hdbg, hm | ⟨hm, hv, hnn⟩⟩ := hc
  · exact ld_glob (X := X.suite a ((a, oe) :: (X.pn ++ pins))) S hg hm q hdbg
  · exact ld_blt (X := X.suite a ((a, oe) :: (X.pn ++ pins))) S hg hm hv q hnn hdbg
section
variable {x n : Str} {c : Value} {i : Nat} {suite : List Stmt} {b₀ : Stmt} {np pos' : Pos} {ts : Addr → Value → Option Addr → TS} {hds : List ExceptHandler} {R : WL}
theorem cl_one (hc : Names X x c) (hsu : ∀ (a : Addr) (oe : Obj) (cls : Value) (d : Option Addr) (pn : List (Addr × Obj)), Zc cls d oe → (∃ vs, oe.data = .fields vs) → PSs (X.suite a ((a, oe) :: pn)) (b₀ :: suite) (ts a cls d)) (r : ClOk X hds R) :
    ClOk X (.ExceptHandler (some (.Name x np)) none (b₀ :: suite) pos' :: hds) (wCl X.K c ts R) := by
  refine ⟨?_⟩
  intro Wout tk pins a B sI s h σ H cls d D dn ⟨b, hb, hyes, hno⟩
  obtain ⟨oe, hz, hd, he, S⟩ := dn.suite
  refine wpAny_handleBy_cons (codeAny_handlers_test ?_) (by intro q; cases q)
  have LT : PySem.W.Looks (model X.prog X.w) h (typeOf (.ref a)) cls := fun A Q E s k q => wpAny_typeOf_ref (k _ _ he) (by rw [hz.1]; exact q)
  have LM := PySem.W.exm_one (M := model X.prog X.w) dn.now.kIn LT hb
  refine cl_test hc dn (LM.here ?_)
  cases b with
  | false => exact r.run tk dn (hno rfl)
  | true =>
    refine codeAny_handlers_suite (HandSPX.lands_againZ dn.fl fun h4 fl4 up4 => ?_)
    have dn4 : Down X pins a B sI s h4 σ H cls d := ⟨dn.hs, dn.hf, dn.inv, dn.nb, dn.up.trans up4, fl4, dn.na, dn.os, dn.ag⟩
    obtain ⟨oe4, hz4, hd4, he4, S4⟩ := dn4.suite
    refine wpAny_mono ((hsu a oe4 cls d (X.pn ++ pins) hz4 hd4).run [] _ _ H _ S4 (hyes rfl a dn.na)) (fun f s6 hsp => ?_) (fun _ _ z => False.elim z)
    cases f with
    | next => exact hsp.elim fun _ z => z.elim fun _ z => ⟨_, _, z.1.unsuite dn.inv.ok, z.2⟩
    | brk => exact hsp.elim fun _ z => z.elim fun _ z => ⟨_, _, z.1.unsuite dn.inv.ok, z.2⟩
    | cont => exact hsp.elim fun _ z => z.elim fun _ z => ⟨_, _, z.1.unsuite dn.inv.ok, z.2⟩
    | ret u => exact hsp.elim fun _ z => z.elim fun _ z => z.elim fun _ z => ⟨_, _, _, z.1.unsuite dn.inv.ok, z.2⟩
theorem cl_as (hN : X.N.Nodup) (hi : X.N[i]? = some n) (hln : X.env.kindOf n = some .local) (hc : Names X x c)
    (hsu : ∀ (a : Addr) (oe : Obj) (cls : Value) (d : Option Addr) (pn : List (Addr × Obj)), Zc cls d oe → (∃ vs, oe.data = .fields vs) → PSs (X.suite a ((a, oe) :: pn)) (b₀ :: suite) (ts a cls d)) (r : ClOk X hds R) :
    ClOk X (.ExceptHandler (some (.Name x np)) (some n) (b₀ :: suite) pos' :: hds) (wClAs X.K c i ts R) := by
  refine ⟨?_⟩
  intro Wout tk pins a B sI s h σ H cls d D dn ⟨b, hb, hyes, hno⟩
  obtain ⟨oe, hz, hd, he, S⟩ := dn.suite
  refine wpAny_handleBy_cons (codeAny_handlers_test ?_) (by intro q; cases q)
  have LT : PySem.W.Looks (model X.prog X.w) h (typeOf (.ref a)) cls := fun A Q E s k q => wpAny_typeOf_ref (k _ _ he) (by rw [hz.1]; exact q)
  have LM := PySem.W.exm_one (M := model X.prog X.w) dn.now.kIn LT hb
  refine cl_test hc dn (LM.here ?_)
  cases b with
  | false => exact r.run tk dn (hno rfl)
  | true =>
    refine codeAny_handlers_suite_as (HandSPX.lands_againZ dn.fl fun h4 fl4 up4 => ?_)
    have dn4 : Down X pins a B sI s h4 σ H cls d := ⟨dn.hs, dn.hf, dn.inv, dn.nb, dn.up.trans up4, fl4, dn.na, dn.os, dn.ag⟩
    obtain ⟨oe4, hz4, hd4, he4, S4⟩ := dn4.suite
    refine store_ok (X := X.suite a ((a, oe4) :: (X.pn ++ pins))) (v := .ref a) S4 hN hi (.inl hln) rfl (fun s5 S5 => ?_) (.inr hln)
    refine wpAny_mono ((hsu a oe4 cls d (X.pn ++ pins) hz4 hd4).run [] s5 _ H _ S5 (hyes rfl a dn.na)) (fun f s6 hsp => ?_) (fun _ _ z => False.elim z)
    have gone : ∀ {σ6 : L2.St} {H6 : Hp} {Q : Shared → Prop}, Inv (X.suite a ((a, oe4) :: (X.pn ++ pins))) [] σ6 H6 s6 → (∀ s7, Inv X pins (σ6.set i none) H6 s7 → Q s7) →
        wpAny (model X.prog X.w) X.A (do bindName X.env n .none; unbindBehindTheSuite X.env n pos') (fun _ s7 => Q s7) X.xe s6 := fun {σ6 H6 Q} S6 hq => gone_ok (S6.unsuite dn.inv.ok) hN hi hln hq
    cases f with
    | next => exact hsp.elim fun _ z => z.elim fun _ z => gone z.1 fun s7 J7 => ⟨_, _, J7, z.2⟩
    | brk => exact hsp.elim fun _ z => z.elim fun _ z => gone z.1 fun s7 J7 => ⟨_, _, J7, z.2⟩
    | cont => exact hsp.elim fun _ z => z.elim fun _ z => gone z.1 fun s7 J7 => ⟨_, _, J7, z.2⟩
    | ret u => exact hsp.elim fun _ z => z.elim fun _ z => z.elim fun _ z => gone z.1 fun s7 J7 => ⟨_, _, _, J7, z.2⟩
end
theorem ps_try_cl {body : List Stmt} {h₀ : ExceptHandler} {hds : List ExceptHandler} {W : WL} {pos : Pos} {tb : WX → TS} {Wout : WX} (hs : X.stack = X.env :: X.outer) (hf : X.env.frame = some X.env.locals) (tk : Takes X Wout)
    (hb : ∀ (W : WX) (pn : List (Addr × Obj)) (xe : Value → Shared → Prop), Takes (X.tr pn xe) W → PassesOwn (model X.prog X.w) X.A X.env xe → PSs (X.tr pn xe) body (tb W)) (hh : ClOk X (h₀ :: hds) W) :
    PS X (.Try body (h₀ :: hds) [] [] pos) (fun D σ H => tb (W Wout D) D σ H) := by
  refine ⟨fun pins s σ H D I h => wpAny_Try_except ?_⟩
  have hfr : X.A.frames = some (X.env :: X.outer) := by rw [I.ok.frames, hs]
  refine wpAny_mono ((hb (W Wout D) (X.pn ++ pins) (fun e s₁ => wpAny (model X.prog X.w) X.A (noteFrame e X.env) (fun _ s₂ => wpAny (model X.prog X.w) X.A (setFlight e none) (fun _ s₃ =>
    wpAny (model X.prog X.w) X.A (handleBy e X.env (h₀ :: hds)) (SP X pins D) X.xe s₃) X.xe s₂) X.xe s₁) (fun u s' xx => ?_) PassesOwn.looking).run [] s σ H D (I.toTry _) h) (fun f s1 hsp => ?_) (fun e s1 he => he)
  · obtain ⟨a, B, sI, pins', σ', H', cls, d, rfl, J', nb, up, sky, na, os, ag, w⟩ := xx
    refine Sky.land Zc.steady hfr hf (by rw [← hs]; exact sky) fun h3 fl3 up3 => ?_
    exact hh.run tk ⟨hs, hf, J'.ofTry I.ok, nb, up.trans up3, fl3, na, os, ag⟩ w
  · cases f with
    | next => exact hsp.elim fun _ z => z.elim fun _ z => wpAny_execs_nil ⟨_, _, z.1.ofTry I.ok, z.2⟩
    | brk => exact hsp.elim fun _ z => z.elim fun _ z => ⟨_, _, z.1.ofTry I.ok, z.2⟩
    | cont => exact hsp.elim fun _ z => z.elim fun _ z => ⟨_, _, z.1.ofTry I.ok, z.2⟩
    | ret u => exact hsp.elim fun _ z => z.elim fun _ z => z.elim fun _ z => ⟨_, _, _, z.1.ofTry I.ok, z.2⟩
end
end Aw

namespace Aw
open PySem L2 PyProof.Rows
/-! ### methods asked within a try -/
def tMX (C : Addr) (m : Str) (sp : Sp) (W : L2.St → XK) (to : TE) (ta : L2.TA) : TE := fun σ H Q => to σ H fun o G => ∃ p dx fs, o = .ref p ∧ G p = some (.ins C dx fs) ∧ fs.lookup m = none ∧ ta σ G fun ws G' => sp (o :: ws) G' Q (W σ)
section
variable {X : Cx} {CX : CXT} {k : Nat} {f C : Addr} {fd : FuncData} {ps : List Str} {sp : Sp} {W : L2.St → XK} {m : Str} {pos apos : Pos} {o : Expr} {to : TE} {pl : Sem Bool}
theorem pe_mX {e : Expr} {es : List Expr} {ta : L2.TA} (ho : PE X o to) (c : Cls X.K C) (hm : Meth X.K C m f) (F : FnOk X.prog X.w X.K X.mg X.base CX k f fd ps sp) (hr : Room k X.A) (hb : Binds X.K fd ps []) (hx : ∀ σ, PassesAt CX X σ (W σ)) (ha : PA X (e :: es) ta)
    (h1 : starEach (e :: es) X.env = (false, eval e X.env) :: starEach es X.env := by rfl) (h2 : (backTo pos (starEach es X.env)).any (·.1) = false := by rfl)
    (h3 : eval (.Call (.Attribute o m apos) (e :: es) [] pos) X.env = (do
      let ov ← eval o X.env
      standAt apos.atName
      let (f, first) ← holding [ov] (getMethod ov m pl)
      callWith pos f first (backTo pos (starEach (e :: es) X.env)) (backToKw pos (keywordEach [] X.env))) := by rfl) : PE X (.Call (.Attribute o m apos) (e :: es) [] pos) (tMX C m sp W to ta) :=
  ⟨fun pins s σ H Q I h => PySem.W.methodCall_KW (pl := pl) (thn (ho.run pins s σ H _ I h) fun u s1 ⟨x, G, J, rx, p, dx, fs, ex, ep, l, q⟩ => by
    subst ex
    obtain rfl : u = Value.ref p := rx
    exact getmeth_ok J ep c hm l (PySem.W.callWith_K (first := [.ref p]) (h₀ := X.base) J.ok.mod.kin hm.kp (thn (ha.run pos pins s1 σ G _ J q) fun us s2 ⟨vs, G', J', r, q'⟩ => ⟨J'.kIn, run_fnS (us := .ref p :: us) (vs := .ref p :: vs) F hr hb (hx σ) J' (.cons rfl r) q'⟩) h1 h2)) h3⟩
theorem pe_mX0 (ho : PE X o to) (c : Cls X.K C) (hm : Meth X.K C m f) (F : FnOk X.prog X.w X.K X.mg X.base CX k f fd ps sp) (hr : Room k X.A) (hb : Binds X.K fd ps []) (hx : ∀ σ, PassesAt CX X σ (W σ))
    (h3 : eval (.Call (.Attribute o m apos) [] [] pos) X.env = (do
      let ov ← eval o X.env
      standAt apos.atName
      let (f, first) ← holding [ov] (getMethod ov m pl)
      callWith pos f first (backTo pos (starEach [] X.env)) (backToKw pos (keywordEach [] X.env))) := by rfl) : PE X (.Call (.Attribute o m apos) [] [] pos) (tMX C m sp W to tNil) :=
  ⟨fun pins s σ H Q I h => PySem.W.methodCall_KW (pl := pl) (thn (ho.run pins s σ H _ I h) fun u s1 ⟨x, G, J, rx, p, dx, fs, ex, ep, l, q⟩ => by
    subst ex
    obtain rfl : u = Value.ref p := rx
    exact getmeth_ok J ep c hm l (PySem.W.callWith_K0 (first := [.ref p]) J.kIn hm.kp (run_fnS (us := [.ref p]) (vs := [.ref p]) F hr hb (hx σ) J (.cons rfl .nil) q))) h3⟩
end
/-- a suite that rests on a fact which its reading tells -/
theorem pss_when {X : Cx} {ss : List Stmt} {t : TS} {P : Prop} (h : P → PSs X ss t) : PSs X ss (fun D σ H => P ∧ t D σ H) := ⟨fun pins s σ H D I hh => (h hh.1).run pins s σ H D I hh.2⟩
theorem pss_exc {X : Cx} {a : Addr} {oe : Obj} {pn : List (Addr × Obj)} {ss : List Stmt} {N : Addr} {t : TS} {cls : Value} {d : Option Addr} (hz : Zc cls d oe) (h : Zc (.ref N) none oe → PSs (X.suite a ((a, oe) :: pn)) ss t) : PSs (X.suite a ((a, oe) :: pn)) ss (fun D σ H => (cls = .ref N ∧ d = none) ∧ t D σ H) :=
  pss_when fun ⟨e1, e2⟩ => by subst e1; subst e2; exact h hz
/-- what an except clause wants of a class -/
structure ExT (K : PySem.W.Frag) (mg : Str → Option Value) (nm : Str) (N : Addr) : Prop where
  g : mg nm = some (.ref N)
  e : PySem.W.exmOne K (.ref N) (.ref N) = some true
  c : ExcC K N
theorem kitc_ref {K : PySem.W.Frag} {t : Value} {S : Addr} {b : Bool} (h2 : PySem.W.isClsIn K S = true) (h3 : PySem.W.typeIn K (.ref S) = some (.type "type")) (h4 : PySem.W.subIn K t (.ref S) = some b) : PySem.W.kitCls K t (.ref S) = some b := by
  have h2' : (PySem.W.clsIn K S).isSome = true := h2
  have e2 : ((PySem.W.clsIn K S).isSome && PySem.W.typeIn K (.ref S) == some (.type "type")) = true := by
    rw [h2', h3] <;> rfl
  unfold PySem.W.kitCls
  dsimp only
  rw [if_pos e2]
  exact h4
theorem kit1 {K : PySem.W.Frag} {t c : Value} {b : Bool} (n : (t == c) = false) (h : PySem.W.kitCls K t c = some b) : PySem.W.kitOne K t c = some b := by
  unfold PySem.W.kitOne
  rw [n]
  exact h
theorem kit_cls {K : PySem.W.Frag} {N S : Addr} {b : Bool} (n : (Value.ref N == Value.ref S) = false) (h2 : PySem.W.isClsIn K S = true) (h3 : PySem.W.typeIn K (.ref S) = some (.type "type")) (h4 : PySem.W.subIn K (.ref N) (.ref S) = some b) : PySem.W.kitOne K (.ref N) (.ref S) = some b := kit1 n (kitc_ref h2 h3 h4)
theorem kit_typ {K : PySem.W.Frag} {N : Addr} {T : String} {b : Bool} (m : PySem.W.kitMeta T = true) (h4 : PySem.W.subIn K (.ref N) (.type T) = some b) : PySem.W.kitOne K (.ref N) (.type T) = some b := kit1 rfl (by
  unfold PySem.W.kitCls
  dsimp only
  rw [if_pos m]
  exact h4)
theorem exm_self' {K : PySem.W.Frag} {S : Addr} (h1 : PySem.W.subIn K (.ref S) (.type "BaseException") = some true) (h2 : PySem.W.isClsIn K S = true) (h3 : PySem.W.typeIn K (.ref S) = some (.type "type")) (h4 : PySem.W.subIn K (.ref S) (.ref S) = some true) : PySem.W.exmOne K (.ref S) (.ref S) = some true := by
  have e1 : (PySem.W.subIn K (.ref S) (.type "BaseException") == some true) = true := by rw [h1] <;> rfl
  unfold PySem.W.exmOne
  rw [if_pos e1]
  exact kitc_ref h2 h3 h4
theorem exm_sub {K : PySem.W.Frag} {N S : Addr} {b : Bool} (h1 : PySem.W.subIn K (.ref S) (.type "BaseException") = some true) (h2 : PySem.W.isClsIn K S = true) (h3 : PySem.W.typeIn K (.ref S) = some (.type "type")) (h4 : PySem.W.subIn K (.ref N) (.ref S) = some b) : PySem.W.exmOne K (.ref N) (.ref S) = some b := by
  have e1 : (PySem.W.subIn K (.ref S) (.type "BaseException") == some true) = true := by rw [h1] <;> rfl
  unfold PySem.W.exmOne
  rw [if_pos e1]
  exact kitc_ref h2 h3 h4
end Aw

namespace Aw
open PySem L2
def top (i : Nat) : Stmt := PySem.Challenge.pw_anewhall_k09_least_fit.main.body.getD i (.Pass ⟨0, 0, 0, 0⟩)
abbrev s_number_piece : Stmt := top 3
/- slots 0:number -/
theorem sc_number_piece : FnScope ["number"] ["number"] (defScope s_number_piece) := ⟨rfl, rfl, rfl, by decide +kernel, rfl, by decide +kernel, by decide +kernel⟩
abbrev s_name_piece : Stmt := top 4
/- slots 0:name -/
theorem sc_name_piece : FnScope ["name"] ["name"] (defScope s_name_piece) := ⟨rfl, rfl, rfl, by decide +kernel, rfl, by decide +kernel, by decide +kernel⟩
abbrev s_gate_piece : Stmt := top 5
/- slots 0:name 1:bound 2:piece -/
theorem sc_gate_piece : FnScope ["name", "bound", "piece"] ["name", "bound", "piece"] (defScope s_gate_piece) := ⟨rfl, rfl, rfl, by decide +kernel, rfl, by decide +kernel, by decide +kernel⟩
abbrev s_joined_piece : Stmt := top 6
/- slots 0:kind 1:pieces -/
theorem sc_joined_piece : FnScope ["kind", "pieces"] ["kind", "pieces"] (defScope s_joined_piece) := ⟨rfl, rfl, rfl, by decide +kernel, rfl, by decide +kernel, by decide +kernel⟩
abbrev s_answer_of : Stmt := top 7
/- slots 0:recipe 1:ask 2:kind 3:answers 4:piece; cells ask -/
theorem sc_answer_of : FnScope ["recipe", "ask", "kind", "answers", "piece"] ["recipe", "ask"] (defScope s_answer_of) := ⟨rfl, rfl, rfl, by decide +kernel, rfl, by decide +kernel, by decide +kernel⟩
abbrev s_gate_answer : Stmt := top 8
/- slots 0:recipe 1:ask 2:_ 3:name 4:bound 5:piece -/
theorem sc_gate_answer : FnScope ["recipe", "ask", "_", "name", "bound", "piece"] ["recipe", "ask"] (defScope s_gate_answer) := ⟨rfl, rfl, rfl, by decide +kernel, rfl, by decide +kernel, by decide +kernel⟩
abbrev s_least_answer : Stmt := top 9
/- slots 0:pieces 1:ask 2:answers 3:piece 4:answer -/
theorem sc_least_answer : FnScope ["pieces", "ask", "answers", "piece", "answer"] ["pieces", "ask"] (defScope s_least_answer) := ⟨rfl, rfl, rfl, by decide +kernel, rfl, by decide +kernel, by decide +kernel⟩
abbrev s_Words_init : Stmt := inClass (top 24) 0
/- slots 0:self 1:words -/
theorem sc_Words_init : FnScope ["self", "words"] ["self", "words"] (defScope s_Words_init) := ⟨rfl, rfl, rfl, by decide +kernel, rfl, by decide +kernel, by decide +kernel⟩
abbrev s_Words_ahead : Stmt := inClass (top 24) 1
/- slots 0:self -/
theorem sc_Words_ahead : FnScope ["self"] ["self"] (defScope s_Words_ahead) := ⟨rfl, rfl, rfl, by decide +kernel, rfl, by decide +kernel, by decide +kernel⟩
abbrev s_Words_taken : Stmt := inClass (top 24) 2
/- slots 0:self 1:word -/
theorem sc_Words_taken : FnScope ["self", "word"] ["self"] (defScope s_Words_taken) := ⟨rfl, rfl, rfl, by decide +kernel, rfl, by decide +kernel, by decide +kernel⟩
abbrev s_Words_expect : Stmt := inClass (top 24) 3
/- slots 0:self 1:word -/
theorem sc_Words_expect : FnScope ["self", "word"] ["self", "word"] (defScope s_Words_expect) := ⟨rfl, rfl, rfl, by decide +kernel, rfl, by decide +kernel, by decide +kernel⟩
abbrev s_read : Stmt := top 25
/- slots 0:text 1:words 2:reader 3:recipe -/
theorem sc_read : FnScope ["text", "words", "reader", "recipe"] ["text"] (defScope s_read) := ⟨rfl, rfl, rfl, by decide +kernel, rfl, by decide +kernel, by decide +kernel⟩
abbrev s_words_of : Stmt := top 26
/- slots 0:text 1:words 2:before 3:sign 4:kind -/
theorem sc_words_of : FnScope ["text", "words", "before", "sign", "kind"] ["text"] (defScope s_words_of) := ⟨rfl, rfl, rfl, by decide +kernel, rfl, by decide +kernel, by decide +kernel⟩
abbrev s_kind_of : Stmt := top 27
/- slots 0:sign -/
theorem sc_kind_of : FnScope ["sign"] ["sign"] (defScope s_kind_of) := ⟨rfl, rfl, rfl, by decide +kernel, rfl, by decide +kernel, by decide +kernel⟩
abbrev s_read_level : Stmt := top 28
/- slots 0:reader 1:level 2:deep 3:kind 4:pieces -/
theorem sc_read_level : FnScope ["reader", "level", "deep", "kind", "pieces"] ["reader", "level", "deep"] (defScope s_read_level) := ⟨rfl, rfl, rfl, by decide +kernel, rfl, by decide +kernel, by decide +kernel⟩
abbrev s_read_piece : Stmt := top 29
/- slots 0:reader 1:deep 2:word 3:piece -/
theorem sc_read_piece : FnScope ["reader", "deep", "word", "piece"] ["reader", "deep"] (defScope s_read_piece) := ⟨rfl, rfl, rfl, by decide +kernel, rfl, by decide +kernel, by decide +kernel⟩
abbrev s_read_gate : Stmt := top 30
/- slots 0:reader 1:deep 2:name 3:bound -/
theorem sc_read_gate : FnScope ["reader", "deep", "name", "bound"] ["reader", "deep"] (defScope s_read_gate) := ⟨rfl, rfl, rfl, by decide +kernel, rfl, by decide +kernel, by decide +kernel⟩
abbrev s_is_name : Stmt := top 31
/- slots 0:text 1:sign -/
theorem sc_is_name : FnScope ["text", "sign"] ["text"] (defScope s_is_name) := ⟨rfl, rfl, rfl, by decide +kernel, rfl, by decide +kernel, by decide +kernel⟩
abbrev s_number_of : Stmt := top 32
/- slots 0:word 1:lowest 2:number -/
theorem sc_number_of : FnScope ["word", "lowest", "number"] ["word", "lowest"] (defScope s_number_of) := ⟨rfl, rfl, rfl, by decide +kernel, rfl, by decide +kernel, by decide +kernel⟩
abbrev s_least : Stmt := top 34
/- slots 0:wells 1:works 2:name 3:recipes 4:stands; cells works stands -/
theorem sc_least : FnScope ["wells", "works", "name", "recipes", "stands"] ["wells", "works"] (defScope s_least) := ⟨rfl, rfl, rfl, by decide +kernel, rfl, by decide +kernel, by decide +kernel⟩
abbrev s_changed : Stmt := top 35
/- slots 0:recipes 1:stands 2:ask 3:before 4:name; cells stands -/
theorem sc_changed : FnScope ["recipes", "stands", "ask", "before", "name"] ["recipes", "stands"] (defScope s_changed) := ⟨rfl, rfl, rfl, by decide +kernel, rfl, by decide +kernel, by decide +kernel⟩
abbrev s_law_cell_at : Stmt := top 37
/- slots 0:_law_script 1:_law_k -/
theorem sc_law_cell_at : FnScope ["_law_script", "_law_k"] ["_law_script", "_law_k"] (defScope s_law_cell_at) := ⟨rfl, rfl, rfl, by decide +kernel, rfl, by decide +kernel, by decide +kernel⟩
abbrev s_law_dice : Stmt := top 38
/- slots 0:_law_cell -/
theorem sc_law_dice : FnScope ["_law_cell"] ["_law_cell"] (defScope s_law_dice) := ⟨rfl, rfl, rfl, by decide +kernel, rfl, by decide +kernel, by decide +kernel⟩
abbrev s_law_roll : Stmt := top 39
/- slots 0:_law_dice_here 1:_law_most 2:_law_found -/
theorem sc_law_roll : FnScope ["_law_dice_here", "_law_most", "_law_found"] ["_law_dice_here", "_law_most"] (defScope s_law_roll) := ⟨rfl, rfl, rfl, by decide +kernel, rfl, by decide +kernel, by decide +kernel⟩
abbrev s_law_names : Stmt := top 40
/- slots 0:_law_cell 1:_law_many 2:_law_letters 3:_law_size 4:_law_at 5:_law_out 6:_law_k 7:_law_name 8:_law_place 9:_law_step -/
theorem sc_law_names : FnScope ["_law_cell", "_law_many", "_law_letters", "_law_size", "_law_at", "_law_out", "_law_k", "_law_name", "_law_place", "_law_step"] ["_law_cell", "_law_many"] (defScope s_law_names) := ⟨rfl, rfl, rfl, by decide +kernel, rfl, by decide +kernel, by decide +kernel⟩
abbrev s_law_tree : Stmt := top 41
/- slots 0:_law_dice_here 1:_law_names_here 2:_law_deep 3:_law_way 4:_law_name 5:_law_kind 6:_law_many 7:_law_k; cells _law_dice_here _law_names_here _law_deep -/
theorem sc_law_tree : FnScope ["_law_dice_here", "_law_names_here", "_law_deep", "_law_way", "_law_name", "_law_kind", "_law_many", "_law_k"] ["_law_dice_here", "_law_names_here", "_law_deep"] (defScope s_law_tree) := ⟨rfl, rfl, rfl, by decide +kernel, rfl, by decide +kernel, by decide +kernel⟩
abbrev s_law_answer : Stmt := top 42
/- slots 0:_law_tree_here 1:_law_ask 2:_law_found 3:_law_piece; cells _law_ask -/
theorem sc_law_answer : FnScope ["_law_tree_here", "_law_ask", "_law_found", "_law_piece"] ["_law_tree_here", "_law_ask"] (defScope s_law_answer) := ⟨rfl, rfl, rfl, by decide +kernel, rfl, by decide +kernel, by decide +kernel⟩
abbrev s_law_written : Stmt := top 43
/- slots 0:_law_tree_here 1:_law_firm 2:_law_rank 3:_law_sign 4:_law_out 5:_law_piece -/
theorem sc_law_written : FnScope ["_law_tree_here", "_law_firm", "_law_rank", "_law_sign", "_law_out", "_law_piece"] ["_law_tree_here", "_law_firm"] (defScope s_law_written) := ⟨rfl, rfl, rfl, by decide +kernel, rfl, by decide +kernel, by decide +kernel⟩
abbrev s_law_whole : Stmt := top 44
/- slots 0:_law_found -/
theorem sc_law_whole : FnScope ["_law_found"] ["_law_found"] (defScope s_law_whole) := ⟨rfl, rfl, rfl, by decide +kernel, rfl, by decide +kernel, by decide +kernel⟩
abbrev s_law_fits : Stmt := top 45
/- slots 0:_law_names_here 1:_law_trees 2:_law_numbers 3:_law_k; cells _law_names_here _law_numbers -/
theorem sc_law_fits : FnScope ["_law_names_here", "_law_trees", "_law_numbers", "_law_k"] ["_law_names_here", "_law_trees", "_law_numbers"] (defScope s_law_fits) := ⟨rfl, rfl, rfl, by decide +kernel, rfl, by decide +kernel, by decide +kernel⟩
abbrev s_law_refused : Stmt := top 46
/- slots 0:_law_wells 1:_law_works 2:e -/
theorem sc_law_refused : FnScope ["_law_wells", "_law_works", "e"] ["_law_wells", "_law_works"] (defScope s_law_refused) := ⟨rfl, rfl, rfl, by decide +kernel, rfl, by decide +kernel, by decide +kernel⟩
abbrev s_law : Stmt := top 47
/- slots 0:_law_script 1:_law_names_here 2:_law_well 3:_law_k 4:_law_trees 5:_law_works 6:_law_bad 7:_law_found 8:_law_one 9:_law_two 10:_law_left 11:_law_right; cells _law_script _law_names_here -/
theorem sc_law : FnScope ["_law_script", "_law_names_here", "_law_well", "_law_k", "_law_trees", "_law_works", "_law_bad", "_law_found", "_law_one", "_law_two", "_law_left", "_law_right"] ["_law_script"] (defScope s_law) := ⟨rfl, rfl, rfl, by decide +kernel, rfl, by decide +kernel, by decide +kernel⟩
end Aw

namespace Aw
open PySem L2
/-- what the top has written that the reading asks: its class, its error, its constants, the built-ins that it calls -/
structure Txt (K : PySem.W.Frag) (mg : Str → Option Value) (C N : Addr) : Prop where
  cl : Cls K C
  nW : NoAttr K C "words"
  nA : NoAttr K C "at"
  mgC : mg "Words" = some (.ref C)
  xN : PySem.W.excIn K N [.type "ValueError", .type "Exception", .type "BaseException", .type "object"] "ValueError.__new__" = true
  gN : mg "NoRecipe" = some (.ref N)
  kN : PySem.W.keepIn K (.ref N) = true
  bN : PySem.W.subIn K (.ref N) (.type "BaseException") = some true
  tN : PySem.W.typeIn K (.ref N) = some (.type "type")
  len : mg "len" = none
  range : mg "range" = none
  str : mg "str" = none
  all : mg "all" = none
  tup : mg "tuple" = none
  gGr : ∃ t, mg "GREATEST" = some (.int 30 t)
  gLet : ∃ t, mg "LETTERS" = some (.str "abcdefghijklmnopqrstuvwxyz" t)
  gFig : ∃ t, mg "FIGURES" = some (.str "0123456789" t)
  gOth : ∃ t, mg "OTHER_WORDS" = some (.str "+&|()[]" t)
  gLN : ∃ t, mg "LONGEST_NAME" = some (.int 6 t)
  gMP : ∃ t, mg "MOST_PIECES" = some (.int 8 t)
  gMW : ∃ t, mg "MOST_WORDS" = some (.int 40 t)
  gMS : ∃ t, mg "MOST_SIGNS" = some (.int 400 t)
  gDe : ∃ t, mg "DEEPEST" = some (.int 2 t)
section
variable {P : Program} {w : World} {K : PySem.W.Frag} {mg : Str → Option Value} {base : Heap} {C N : Addr} {f : Addr} {fd : FuncData}
theorem ok_Winit (F : Fun K "__init__" "Words.__init__" s_Words_init f fd) (T : Txt K mg C N) : FnOk P w K mg base CX0 1 f fd ["self", "words"] (spInit C) := by
  refine F.ok sc_Words_init (fun vs H Q E h => ?_) (fun cdv A outer s H vs Q E hr h => ?_)
  · obtain ⟨p, dx, l, rfl, _⟩ := h
    rfl
  obtain ⟨p, dx, l, rfl, hp, k⟩ := h
  refine ⟨_, pss_cons (ps_fld (pv 0) (pv 1) rfl) (pss_one (ps_fld (pv 0) pe_int rfl)), ?_⟩
  refine ⟨_, rfl, _, rfl, p, C, dx, [], rfl, hp, T.cl, T.nW, (by show 0 < 1000; decide), _, rfl, p, C, dx, _, rfl, upd_same, T.cl, T.nA, (by show 1 < 1000; decide), ?_⟩
  refine k _ upd_same fun b o e hb => ?_
  rw [upd_ne hb, upd_ne hb]
  exact e
theorem ok_ahead (F : Fun K "ahead" "Words.ahead" s_Words_ahead f fd) (T : Txt K mg C N) : FnOk P w K mg base CX0 1 f fd ["self"] (spAhead C) := by
  refine F.ok sc_Words_ahead (fun vs H Q E h => ?_) (fun cdv A outer s H vs Q E hr h => ?_)
  · obtain ⟨p, l, ws, i, rfl, _⟩ := h
    rfl
  obtain ⟨p, l, ws, i, rfl, R, k⟩ := h
  obtain ⟨dx, hp⟩ := R.ob
  refine ⟨_, pss_cons (ps_if (pt_cmpR op_lt (pe_fld (pv 0) rfl) (pe_callB call_len_seq (by rfl) T.len PySem.boot_len (pa_cons (pe_fld (pv 0) rfl) pa_nil)) (nomark _))
      (pss_one (ps_ret (pe_ix ix_list (pe_fld (pv 0) rfl) (pe_fld (pv 0) rfl) (fun _ _ => rfl)))) pss_nil)
    (pss_one (ps_ret pe_str)), ?_⟩
  refine ⟨_, rfl, p, C, dx, _, _, rfl, hp, T.cl, T.nA, rflds_at _ _, _, rfl, p, C, dx, _, _, rfl, hp, T.cl, T.nW, rflds_words _ _, l, _, rfl, .inl (SqL.of R.ls), _, _, rfl, rfl, _, rfl, ?_⟩
  refine ite2 (fun c => ?_) (fun c => ?_)
  · have c' : (i : Int) < (((ws.map V.str).length : Nat) : Int) := of_decide_eq_true c
    rw [List.length_map] at c'
    have hi : i < ws.length := by omega
    refine ⟨_, rfl, p, C, dx, _, _, rfl, hp, T.cl, T.nW, rflds_words _ _, _, rfl, p, C, dx, _, _, rfl, hp, T.cl, T.nA, rflds_at _ _, l, _, _, .str (wd ws i), rfl, rfl, SqL.of R.ls, ?_, k⟩
    exact atI_nat (by rw [List.getElem?_map, wd_get hi] <;> rfl)
  · have c' : ¬ (i : Int) < (((ws.map V.str).length : Nat) : Int) := of_decide_eq_false (Bool.eq_false_iff.mpr c)
    rw [List.length_map] at c'
    have e := wd_end (ws := ws) (i := i) (by omega)
    rw [e] at k
    exact k
theorem ok_taken {g : Addr} {gd : FuncData} (F : Fun K "taken" "Words.taken" s_Words_taken f fd) (T : Txt K mg C N) (FA : Fun K "ahead" "Words.ahead" s_Words_ahead g gd) (bA : Binds K gd ["self"] []) (mA : Meth K C "ahead" g) : FnOk P w K mg base CX0 2 f fd ["self"] (spTaken C) := by
  have GA : FnOk P w K mg base CX0 1 g gd ["self"] (spAhead C) := ok_ahead FA T
  refine F.ok sc_Words_taken (fun vs H Q E h => ?_) (fun cdv A outer s H vs Q E hr h => ?_)
  · obtain ⟨p, l, ws, i, rfl, _⟩ := h
    rfl
  obtain ⟨p, l, ws, i, rfl, R, k⟩ := h
  obtain ⟨dx, hp⟩ := R.ob
  refine ⟨_, pss_cons (ps_set (i := 1) sc_Words_taken.nd rfl (Or.inl rfl) (pe_meth0 (pv 0) T.cl mA GA hr bA .nil pass0))
    (pss_cons (ps_fldaug (pv 0) pe_int in_add)
    (pss_one (ps_ret (pv 1)))), ?_⟩
  refine ⟨_, rfl, p, dx, _, rfl, hp, rflds_no _ _ (by decide +kernel) (by decide +kernel), p, l, ws, i, rfl, R, ?_⟩
  refine ⟨_, rfl, p, C, dx, _, _, rfl, hp, T.cl, T.nA, rflds_at _ _, _, _, rfl, rfl, dx, _, hp, (by rw [rflds_eq]; show 2 < 1000; decide), ?_⟩
  refine ⟨_, rfl, ?_⟩
  have npl : l ≠ p := ne_of R.ls hp (by intro z; cases z)
  refine k _ (But.upd _) ⟨⟨dx, ?_⟩, (by rw [upd_ne npl]; exact R.ls), R.ln⟩
  rw [upd_same, rflds_put l i (by omega)]
end
end Aw

namespace Aw
open PySem L2
section
variable {X : Cx}
/-- xs[i] read for xs[i] op= e -/
theorem get_list : PGet X (rIxL X.K) := by
  intro pins s σ H x y v u Q I rx ry h
  obtain ⟨p, xs, i, z, rfl, rfl, hq, he, q⟩ := h
  cases rx
  obtain ⟨t, rfl⟩ := ry
  obtain ⟨its, r, pl, hz⟩ := I.list hq
  obtain ⟨j, h1, h2, h3, h4, h5⟩ := atI_get he
  obtain ⟨w, ew, rw'⟩ := r.get h2
  have hl := r.length
  have hn := line63
  have fin : EP X pins σ Q w s := ⟨z, H, I, rw', q⟩
  by_cases h0 : 0 ≤ i
  · have hj : i.toNat = j := by
      rw [seqIndex_of h0 h5] at h1
      exact Option.some.inj h1
    exact PySem.wpAny_getItem_list (Q := fun r s' => EP X pins σ Q r s') pl.isList h0 (by omega) (by rw [hj]; simpa using ew) fin
  · have hj : (i + (its.toArray.size : Int)).toNat = j := by
      rw [seqIndex_neg (by omega) h4] at h1
      rw [List.size_toArray, ← hl]
      exact Option.some.inj h1
    exact PySem.wpAny_getItem_list_neg (Q := fun r s' => EP X pins σ Q r s') pl.isList (by omega) (by rw [List.size_toArray] <;> omega) (by omega) (by rw [hj]; simpa using ew) fin
end
section
variable {X : Cx} {x : Str} {pos : Pos}
theorem pe_gI {n : Int} (hm : ∃ t, X.mg x = some (.int n t)) (hg : Gl X x := by rfl) (hd : (x == ("__debug__" : Str)) = false := by decide) : PE X (.Name x pos) (tC (.int n)) := by
  obtain ⟨t, hm⟩ := hm
  exact pe_glob hg hm ⟨_, rfl⟩ hd
theorem pe_gS {z : Str} (hm : ∃ t, X.mg x = some (.str z t)) (hg : Gl X x := by rfl) (hd : (x == ("__debug__" : Str)) = false := by decide) : PE X (.Name x pos) (tC (.str z)) := by
  obtain ⟨t, hm⟩ := hm
  exact pe_glob hg hm ⟨_, rfl⟩ hd
end
theorem find_none {p : Nat → Bool} {n : Nat} (h : ∀ i, i < n → p i = false) : (List.range n).find? p = none := by
  rw [List.find?_eq_none]
  intro x hx
  rw [h x (List.mem_range.mp hx)]
  exact Bool.false_ne_true
theorem find_at {p : Nat → Bool} {n i : Nat} (hi : i < n) (h : ∀ j, j < i → p j = false) (hp : p i = true) : (List.range n).find? p = some i := by
  rw [List.find?_eq_some_iff_getElem]
  refine ⟨hp, i, by simpa using hi, by simp, fun j hj => ?_⟩
  have e := h j hj
  simp [e]
theorem small_tx {i : Int} (h0 : 0 ≤ i) (h1 : i ≤ 1000) : i.natAbs.log2 < 1920 := by
  have e : i.natAbs ≤ 1000 := by omega
  rcases Nat.eq_zero_or_pos i.natAbs with q | q
  · rw [q]; decide
  · have := (Nat.log2_lt (by omega : i.natAbs ≠ 0) (k := 1920)).mpr (Nat.lt_of_le_of_lt e (by decide +kernel))
    exact this
theorem len_sg1 (c : Nat) : (sg1 c).length = 1 := rfl
theorem len_app (a b : Str) : (a ++ b).length = a.length + b.length := by
  show (a.cps ++ b.cps).size = _
  rw [Array.size_append] <;> rfl
theorem big {n : Nat} (h : n ≤ 100000) : n ≤ sizeLine := Nat.le_trans h (by decide)
section
variable {P : Program} {w : World} {K : PySem.W.Frag} {mg : Str → Option Value} {base : Heap} {C N : Addr} {f : Addr} {fd : FuncData}
theorem ok_expect {g : Addr} {gd : FuncData} (F : Fun K "expect" "Words.expect" s_Words_expect f fd) (T : Txt K mg C N) (GT : FnOk P w K mg base CX0 2 g gd ["self"] (spTaken C)) (bA : Binds K gd ["self"] []) (mA : Meth K C "taken" g) : FnOk P w K mg base (L2.CX P w) 3 f fd ["self", "word"] (spExpect C N) := by
  refine F.okX sc_Words_expect (fun vs H Q E h => ?_) (fun cdv A outer s H vs Q E hr h => ?_)
  · obtain ⟨p, l, ws, i, z, rfl, _⟩ := h
    rfl
  obtain ⟨p, l, ws, i, z, rfl, R, hz, hw, k1, k2⟩ := h
  obtain ⟨dx, hp⟩ := R.ob
  refine ⟨_, pss_one (ps_if (pt_cmpR op_ne (pe_meth0 (pv 0) T.cl mA GT hr bA .nil pass0) (pv 1) (nomark _))
      (pss_one (ps_raise (W := fun cls d _ H => E cls d H) rfl (takes_of rfl rfl rfl rfl) (SkE.pmk_own1 PySem.F.excBase_ValueError T.xN T.gN T.kN (raises_own T.bN T.tN) rfl (pe_joined (.cons pe_str (.cons (pe_fmt (pv 1)) (.cons pe_str .nil))))))) pss_nil), ?_⟩
  refine ⟨_, rfl, p, dx, _, rfl, hp, rflds_no _ _ (by decide +kernel) (by decide +kernel), p, l, ws, i, rfl, R, fun H' hb R' => ?_⟩
  refine ⟨_, rfl, rfl, _, rfl, ?_⟩
  by_cases e : wd ws i = z
  · rw [show decide (V.str (wd ws i) = V.str z) = true from decide_eq_true (by rw [e])]
    exact iteF (k1 e H' hb R')
  · rw [show decide (V.str (wd ws i) = V.str z) = false from decide_eq_false (by intro q; cases q; exact e rfl)]
    refine iteT ?_
    refine ⟨_, rfl, ?_, _, rfl, .inl ⟨z, rfl, big (by omega), z, rfl, ?_, _, rfl, ?_, k2 e H' hb⟩⟩
    · rw [len_app]; exact big (by show 0 + 18 ≤ _; decide)
    · rw [len_app, len_app]; exact big (by show 0 + 18 + z.length ≤ _; omega)
    · rw [len_app, len_app, len_app]; exact big (by show 0 + 18 + z.length + 20 ≤ _; omega)
theorem ok_number (F : Fun K "number_of" "number_of" s_number_of f fd) (T : Txt K mg C N) : FnOk P w K mg base (L2.CX P w) 1 f fd ["word", "lowest"] (spNum N) := by
  refine F.okX sc_number_of (fun vs H Q E h => ?_) (fun cdv A outer s H vs Q E hr h => ?_)
  · obtain ⟨z, lo, rfl, _⟩ := h
    rfl
  obtain ⟨z, lo, rfl, h0, h30, k1, k2⟩ := h
  refine ⟨_, pss_cons (ps_for (passes_of rfl) rfl (pi_range2 (by rfl) T.range (pa_cons (pv 1) (pa_cons (pe_op op_add (pe_gI T.gGr) pe_int) pa_nil))) (pg_name (i := 2) sc_number_of.nd rfl (Or.inl rfl))
      (pss_one (ps_if (pt_cmpR op_eq (pv 0) (pe_callTy call_str_int (by rfl) T.str (by decide +kernel) (pa_cons (pv 2) pa_nil)) (nomark _)) (pss_one (ps_ret (pv 2))) pss_nil)))
    (pss_one (ps_raise (W := fun cls d _ H => E cls d H) rfl (takes_of rfl rfl rfl rfl) (pmk_own PySem.F.excBase_ValueError T.xN T.gN T.kN (raises_own T.bN T.tN) rfl))), ?_⟩
  refine ⟨_, rfl, _, _, rfl, rfl, lo, 31, rfl, ⟨by omega, by omega, by omega, by omega⟩, ?_⟩
  refine for_range (lo := lo) (n := (31 - lo).toNat) (fun i σ H' => H' = H ∧ (∃ v : Option V, σ = [some (.str z), some (.int lo), v]) ∧ ∀ j : Nat, j < i → z ≠ tx (lo + (j : Nat))) ⟨rfl, ⟨none, rfl⟩, fun j hj => by omega⟩ ?_ ?_
  · rintro i σ H' hi ⟨rfl, ⟨v, rfl⟩, hn⟩
    refine ⟨_, rfl, _, rfl, _, rfl, small_tx (by omega) (by omega), rfl, _, rfl, ?_⟩
    by_cases e : z = tx (lo + (i : Nat))
    · rw [show decide (V.str z = V.str (toString (lo + (i : Int)))) = true from decide_eq_true (by rw [e]; rfl)]
      refine iteT ?_
      refine ⟨_, rfl, k1 _ ?_⟩
      unfold numM
      rw [find_at hi (fun j hj => decide_eq_false (hn j hj)) (decide_eq_true e)]
      rfl
    · rw [show decide (V.str z = V.str (toString (lo + (i : Int)))) = false from decide_eq_false (by intro q; exact e (V.str.inj q))]
      refine iteF ⟨rfl, ⟨_, rfl⟩, fun j hj => ?_⟩
      rcases Nat.lt_succ_iff_lt_or_eq.mp hj with q | q
      · exact hn j q
      · subst q; exact e
  · rintro σ H' ⟨rfl, ⟨v, rfl⟩, hn⟩
    refine k2 ?_
    unfold numM
    rw [find_none fun j hj => decide_eq_false (hn j hj)]
    rfl
theorem ok_name (F : Fun K "is_name" "is_name" s_is_name f fd) (T : Txt K mg C N) : FnOk P w K mg base CX0 1 f fd ["text"] spName := by
  refine F.ok sc_is_name (fun vs H Q E h => ?_) (fun cdv A outer s H vs Q E hr h => ?_)
  · obtain ⟨z, rfl, _⟩ := h
    rfl
  obtain ⟨z, rfl, hz, k⟩ := h
  refine ⟨_, pss_cons (ps_if (pt_not (pt_chain op_le op_le pe_int (pe_callB call_len_str (by rfl) T.len PySem.boot_len (pa_cons (pv 0) pa_nil)) (pe_gI T.gLN))) (pss_one (ps_ret pe_bl)) pss_nil)
    (pss_one (ps_ret (pe_callB (cr_all rfl) (by rfl) T.all (by decide +kernel) (pa_cons
      (pe_lc (own := [("sign", 1)]) (g := gName 1) rfl sc_is_name.nd (pi_str (pv 0)) (blkOk_by (N := ["text", "sign"]) (sc := defScope s_is_name) (by decide +kernel)) (fun _ _ _ _ _ => pg_name (i := 1) sc_is_name.nd rfl (Or.inl rfl)) (fun _ _ _ _ _ => pts_nil)
        (fun _ _ _ _ _ => pe_cmpR op_in_sign (pv 1) (pe_gS T.gLet) rfl)) pa_nil)))), ?_⟩
  refine ⟨_, rfl, _, rfl, big (by omega), _, _, rfl, rfl, _, rfl, ?_⟩
  by_cases c1 : (1 : Int) ≤ (z.length : Int)
  · rw [show decide ((1 : Int) ≤ (z.length : Int)) = true from decide_eq_true c1]
    refine iteT ⟨_, _, rfl, rfl, _, rfl, ?_⟩
    by_cases c2 : (z.length : Int) ≤ 6
    · rw [show decide ((z.length : Int) ≤ 6) = true from decide_eq_true c2]
      refine iteF ?_
      refine ⟨_, rfl, _, rfl, fun D hD => ?_⟩
      refine lc_it (walk_str (z := z)) (fun i H' => Same H H' ∧ H' D = some (.lst (((z.cps.toList.take i).map fun c => V.bl (decide (c ∈ LET)))))) ?_ (fun _ _ _ _ => trivial) ?_ ?_
      · exact ⟨same_new hD _, upd_same⟩
      · rintro i x H1 H2 hi ⟨s1, e1⟩ ⟨rfl, c, hc, rfl⟩
        have hc' : z.cps.toList[i]? = some c := by rw [Array.getElem?_toList]; exact hc
        have hi' : i < z.length := hi
        refine ⟨rfl, ?_⟩
        refine ⟨_, rfl, c, _, rfl, rfl, _, e1, ?_, ?_⟩
        · rw [List.length_map, List.length_take]
          exact small1000 (by omega)
        · refine ⟨same_upd s1 hD _, ?_⟩
          rw [upd_same, take_more hc', List.map_append]
          rfl
      · rintro H1 ⟨s1, e1⟩
        rw [List.take_of_length_le (by rw [Array.length_toList] <;> exact Nat.le_refl _)] at e1
        refine ⟨D, z.cps.toList.map fun c => decide (c ∈ LET), rfl, SqL.of (by rw [e1, List.map_map] <;> rfl), ?_⟩
        have e : nameM z = ((z.cps.toList.map fun c => decide (c ∈ LET)).all id) := by
          unfold nameM
          rw [decide_eq_true (show 1 ≤ z.length ∧ z.length ≤ 6 by omega), Bool.true_and, List.all_map]
          rfl
        rw [← e]
        exact k H1 s1
    · rw [show decide ((z.length : Int) ≤ 6) = false from decide_eq_false c2]
      refine iteT ?_
      have e : nameM z = false := by
        unfold nameM
        rw [decide_eq_false (show ¬ (1 ≤ z.length ∧ z.length ≤ 6) by omega), Bool.false_and]
      have q := k H (Same.refl H)
      rw [e] at q
      exact q
  · rw [show decide ((1 : Int) ≤ (z.length : Int)) = false from decide_eq_false c1]
    refine iteF ⟨_, rfl, ?_⟩
    refine iteT ?_
    have e : nameM z = false := by
      unfold nameM
      rw [decide_eq_false (show ¬ (1 ≤ z.length ∧ z.length ≤ 6) by omega), Bool.false_and]
    have q := k H (Same.refl H)
    rw [e] at q
    exact q
theorem kind_no {A : Prop} {a b : Str} (h : ¬ a = b) (q : A) : if decide (V.str a = V.str b) = true then False else A := by
  rw [decide_eq_false (by intro z; exact h (V.str.inj z))]
  exact iteF q
theorem ok_kind (F : Fun K "kind_of" "kind_of" s_kind_of f fd) (T : Txt K mg C N) : FnOk P w K mg base (L2.CX P w) 1 f fd ["sign"] (spKind N) := by
  refine F.okX sc_kind_of (fun vs H Q E h => ?_) (fun cdv A outer s H vs Q E hr h => ?_)
  · obtain ⟨z, rfl, _⟩ := h
    rfl
  obtain ⟨c, rfl, k1, k2⟩ := h
  refine ⟨_, pss_cons (ps_if (pt_cmpR op_in_sign (pv 0) (pe_gS T.gLet) rfl) (pss_one (ps_ret pe_str)) pss_nil)
    (pss_cons (ps_if (pt_cmpR op_in_sign (pv 0) (pe_gS T.gFig) rfl) (pss_one (ps_ret pe_str)) pss_nil)
    (pss_cons (ps_if (pt_cmpR op_in_sign (pv 0) (pe_gS T.gOth) rfl) (pss_one (ps_ret pe_str)) pss_nil)
    (pss_cons (ps_if (pt_cmpR op_eq (pv 0) pe_str (nomark _)) (pss_one (ps_ret pe_str)) pss_nil)
    (pss_one (ps_raise (W := fun cls d _ H => E cls d H) rfl (takes_of rfl rfl rfl rfl) (pmk_own PySem.F.excBase_ValueError T.xN T.gN T.kN (raises_own T.bN T.tN) rfl)))))), ?_⟩
  refine ⟨_, rfl, c, _, rfl, rfl, _, rfl, ?_⟩
  by_cases h1 : c ∈ LET
  · rw [show decide (c ∈ (("abcdefghijklmnopqrstuvwxyz" : Str)).cps.toList) = true from decide_eq_true h1]
    refine iteT (k1 .letter ?_)
    unfold kindM; rw [if_pos h1]
  rw [show decide (c ∈ (("abcdefghijklmnopqrstuvwxyz" : Str)).cps.toList) = false from decide_eq_false h1]
  refine iteF ⟨_, rfl, c, _, rfl, rfl, _, rfl, ?_⟩
  by_cases h2 : c ∈ FIG
  · rw [show decide (c ∈ (("0123456789" : Str)).cps.toList) = true from decide_eq_true h2]
    refine iteT (k1 .figure ?_)
    unfold kindM; rw [if_neg h1, if_pos h2]
  rw [show decide (c ∈ (("0123456789" : Str)).cps.toList) = false from decide_eq_false h2]
  refine iteF ⟨_, rfl, c, _, rfl, rfl, _, rfl, ?_⟩
  by_cases h3 : c ∈ OTH
  · rw [show decide (c ∈ (("+&|()[]" : Str)).cps.toList) = true from decide_eq_true h3]
    refine iteT (k1 .other ?_)
    unfold kindM; rw [if_neg h1, if_neg h2, if_pos h3]
  rw [show decide (c ∈ (("+&|()[]" : Str)).cps.toList) = false from decide_eq_false h3]
  refine iteF ⟨_, rfl, rfl, _, rfl, ?_⟩
  by_cases h4 : sg1 c = " "
  · rw [show decide (V.str (sg1 c) = V.str " ") = true from decide_eq_true (by rw [h4])]
    refine iteT (k1 .blank ?_)
    unfold kindM; rw [if_neg h1, if_neg h2, if_neg h3, if_pos h4]
  rw [show decide (V.str (sg1 c) = V.str " ") = false from decide_eq_false (by intro q; exact h4 (V.str.inj q))]
  refine iteF (k2 ?_)
  unfold kindM; rw [if_neg h1, if_neg h2, if_neg h3, if_neg h4]
end
end Aw

namespace Aw
open PySem L2
theorem kn_inj {a b : Kn} (h : a.nm = b.nm) : a = b := by
  revert h
  cases a <;> cases b <;> decide +kernel
theorem kn_dec (a b : Kn) : decide (V.str a.nm = V.str b.nm) = decide (a = b) := by
  cases a <;> cases b <;> decide +kernel
theorem kn_in (k : Kn) : inV (.str k.nm) [.str "letter", .str "figure"] = decide (k = .letter ∨ k = .figure) := by
  cases k <;> decide +kernel
theorem kn_blank (k : Kn) : (!decide (V.str k.nm = V.str "blank")) = decide (k ≠ .blank) := by
  cases k <;> decide +kernel
theorem ixN_last {n : Nat} (h0 : 0 < n) : ixN n (-1) = some (n - 1) := by
  unfold ixN
  rw [if_neg (by omega), if_pos (by omega)]
  exact congrArg some (by omega)
theorem at_last {xs : List V} {v : V} (h : xs[xs.length - 1]? = some v) (h0 : 0 < xs.length) : atI xs (-1) = some v := by
  unfold atI
  rw [ixN_last h0]
  exact h
theorem map_addLast {ws : List Str} {c : Nat} : (ws.map V.str).set (ws.length - 1) (.str (wd ws (ws.length - 1) ++ sg1 c)) = (addLast ws c).map V.str := by
  unfold addLast
  rw [List.map_set]
/-- what holds of the words between two signs -/
structure LexOk (z : Str) (i : Nat) (ws : List Str) (b : Kn) : Prop where
  go : lexGo (z.cps.toList.drop i) ws b = lexM z
  ne : b = .letter ∨ b = .figure → 0 < ws.length
  ln : ws.length ≤ i
  wl : ∀ w ∈ ws, w.length ≤ i
theorem mem_addLast {ws : List Str} {c : Nat} {w : Str} {i : Nat} (hw : ∀ w ∈ ws, w.length ≤ i) (h : w ∈ addLast ws c) : w.length ≤ i + 1 := by
  unfold addLast at h
  rcases List.mem_or_eq_of_mem_set h with q | q
  · exact Nat.le_succ_of_le (hw _ q)
  · subst q
    rw [len_app, len_sg1]
    rcases Nat.lt_or_ge (ws.length - 1) ws.length with q | q
    · exact Nat.succ_le_succ (hw _ (List.mem_of_getElem? (wd_get q)))
    · rw [wd_end (by omega)]
      show 0 + 1 ≤ i + 1
      omega
theorem LexOk.step {z : Str} {i c : Nat} {ws : List Str} {b k : Kn} (h : LexOk z i ws b) (hc : z.cps.toList[i]? = some c) (hk : kindM c = some k) : LexOk z (i + 1) (lexStep (ws, b) c k) k := by
  have hi : i < z.cps.toList.length := (List.getElem?_eq_some_iff.mp hc).1
  have e : z.cps.toList.drop i = c :: z.cps.toList.drop (i + 1) := by
    rw [List.drop_eq_getElem_cons hi]
    have : z.cps.toList[i] = c := by
      have q := List.getElem?_eq_getElem hi
      rw [hc] at q
      exact (Option.some.inj q).symm
    rw [this]
  have g := h.go
  rw [e] at g
  unfold lexGo at g
  rw [hk] at g
  have wl := h.wl
  have ln := h.ln
  have ne := h.ne
  refine ⟨g, ?_, ?_, ?_⟩
  · intro hb
    unfold lexStep
    by_cases h1 : k = b ∧ (k = .letter ∨ k = .figure)
    · rw [if_pos h1]
      unfold addLast
      rw [List.length_set]
      exact ne (h1.1 ▸ h1.2)
    · rw [if_neg h1, if_pos (by intro z; subst z; rcases hb with q | q <;> cases q)]
      rw [List.length_append]
      exact Nat.lt_of_lt_of_le Nat.zero_lt_one (Nat.le_add_left _ _)
  · unfold lexStep
    dsimp only
    split
    · unfold addLast
      rw [List.length_set]; omega
    · split
      · rw [List.length_append, List.length_singleton]; omega
      · omega
  · intro w hw
    unfold lexStep at hw
    dsimp only at hw
    split at hw
    · exact mem_addLast wl hw
    · split at hw
      · rcases List.mem_append.mp hw with q | q
        · exact Nat.le_succ_of_le (wl _ q)
        · rw [List.mem_singleton.mp q, len_sg1]; omega
      · exact Nat.le_succ_of_le (wl _ hw)
theorem LexOk.none {z : Str} {i c : Nat} {ws : List Str} {b : Kn} (h : LexOk z i ws b) (hc : z.cps.toList[i]? = some c) (hk : kindM c = none) : lexM z = none := by
  have hi : i < z.cps.toList.length := (List.getElem?_eq_some_iff.mp hc).1
  have e : z.cps.toList.drop i = c :: z.cps.toList.drop (i + 1) := by
    rw [List.drop_eq_getElem_cons hi]
    have : z.cps.toList[i] = c := by
      have q := List.getElem?_eq_getElem hi
      rw [hc] at q
      exact (Option.some.inj q).symm
    rw [this]
  have g := h.go
  rw [e] at g
  unfold lexGo at g
  rw [hk] at g
  exact g.symm
section
variable {P : Program} {w : World} {K : PySem.W.Frag} {mg : Str → Option Value} {base : Heap} {C N : Addr} {f : Addr} {fd : FuncData}
theorem ok_words {g : Addr} {gd : FuncData} (F : Fun K "words_of" "words_of" s_words_of f fd) (T : Txt K mg C N) (GK : FnOk P w K mg base (L2.CX P w) 1 g gd ["sign"] (spKind N)) (bK : Binds K gd ["sign"] []) (kK : PySem.W.keepIn K (.ref g) = true) (mK : mg "kind_of" = some (.ref g)) :
    FnOk P w K mg base (L2.CX P w) 2 f fd ["text"] (spWords N) := by
  refine F.okX sc_words_of (fun vs H Q E h => ?_) (fun cdv A outer s H vs Q E hr h => ?_)
  · obtain ⟨z, rfl, _⟩ := h
    rfl
  obtain ⟨z, rfl, hz, k1, k2⟩ := h
  have nd := sc_words_of.nd
  refine ⟨_, pss_cons (ps_set (i := 1) nd rfl (.inl rfl) (pe_lst pa_nil))
    (pss_cons (ps_set (i := 2) nd rfl (.inl rfl) pe_str)
    (pss_cons (ps_for (passes_of rfl) rfl (pi_str (pv 0)) (pg_name (i := 3) nd rfl (.inl rfl))
      (pss_cons (ps_set (i := 4) nd rfl (.inl rfl) (pe_call (E := E) GK hr rfl mK kK bK .nil (passes_call (W := fun cls d _ H => E cls d H) (takes_of rfl rfl rfl rfl) (fun _ _ _ _ h => h)) (pa_cons (pv 3) pa_nil)))
      (pss_cons (ps_if (PW.pt (pw_and (pt_cmpR op_eq (pv 4) (pv 2) (nomark _)) (pw_and1 (pt_cmpR op_in_seq (pv 4) (pe_tup (pa_cons pe_str (pa_cons pe_str pa_nil))) rfl))))
        (pss_one (ps_augS (pv 1) (pe_un un_neg pe_int) get_list (pv 3) in_addS set_list))
        (pss_one (ps_if (pt_cmpR op_ne (pv 4) pe_str (nomark _)) (pss_one (ps_expr (pe_bm PySem.F.plainAttrs_list PySem.F.slot_list_append PySem.F.type_list_append mt_append (pv 1) (pa_cons (pv 3) pa_nil)))) pss_nil)))
      (pss_one (ps_set (i := 2) nd rfl (.inl rfl) (pv 4))))))
    (pss_one (ps_ret (pv 1))))), ?_⟩
  refine ⟨(by show 0 ≤ sizeLine; decide), fun l hl => ?_⟩
  refine ⟨_, rfl, _, rfl, ?_⟩
  refine for_it (walk_str (z := z)) (fun i σ H' => ∃ (ws : List Str) (b : Kn) (v3 v4 : Option V), σ = [some (.str z), some (.ref l), some (.str b.nm), v3, v4] ∧ Same H H' ∧ H' l = some (.lst (ws.map V.str)) ∧ LexOk z i ws b)
    ⟨[], .blank, none, none, rfl, same_new hl _, upd_same, ⟨rfl, (by intro q; rcases q with q | q <;> cases q), Nat.le_refl _, fun _ h => by cases h⟩⟩ (fun _ _ _ _ _ => trivial) ?_ ?_
  · rintro i x σ H1 H2 hi ⟨ws, b, v3, v4, rfl, s1, e1, L⟩ ⟨rfl, c, hc, rfl⟩
    have hc' : z.cps.toList[i]? = some c := by rw [Array.getElem?_toList]; exact hc
    have hi' : i < z.length := hi
    refine ⟨_, rfl, c, rfl, fun k hk => ?_, fun hk => k2 (L.none hc' hk) _ s1⟩
    have L' := L.step hc' hk
    have wl := L.wl
    have ln := L.ln
    -- the two other ways: append, or nothing
    have other : ¬ (k = b ∧ (k = .letter ∨ k = .figure)) → ∀ H3, Same H H3 → H3 l = some (.lst (ws.map V.str)) → ∀ D : Ends, (∀ H4, Same H H4 → H4 l = some (.lst ((lexStep (ws, b) c k).map V.str)) → D.nx [some (.str z), some (.ref l), some (.str b.nm), some (.str (sg1 c)), some (.str k.nm)] H4) →
        (tIfS (tTest (tOp rNe (tVar 4) (tC (.str "blank")))) (tDrop (tBM K "list" (rAppend) (tVar 1) (tCons (tVar 3) tNil))) tNext) D [some (.str z), some (.ref l), some (.str b.nm), some (.str (sg1 c)), some (.str k.nm)] H3 := by
      intro hn H3 s3 e3 D q
      refine ⟨_, rfl, rfl, _, rfl, ?_⟩
      rw [kn_blank]
      unfold lexStep at q
      rw [if_neg hn] at q
      by_cases hb : k = .blank
      · rw [decide_eq_false (not_not_intro hb)]
        rw [if_neg (not_not_intro hb)] at q
        exact iteF (q H3 s3 e3)
      · rw [decide_eq_true hb]
        rw [if_pos hb] at q
        refine iteT ⟨_, rfl, .inl ⟨rfl, _, SqL.of e3⟩, _, rfl, l, _, _, rfl, rfl, e3, ?_, ?_⟩
        · rw [List.length_map]; exact small1000 (by omega)
        · refine q _ (same_upd s3 hl _) ?_
          rw [upd_same, List.map_append]
          rfl
    refine ⟨_, rfl, _, rfl, rfl, _, rfl, ?_⟩
    rw [kn_dec]
    by_cases hkb : k = b
    · rw [decide_eq_true hkb]
      refine iteT ⟨_, rfl, (by show 2 ≤ sizeLine; decide), fun p hp => ?_⟩
      refine ⟨p, _, rfl, .inr (SqT.of upd_same), rfl, rfl, _, rfl, ?_⟩
      rw [show (if false = true then !inV (V.str k.nm) [.str "letter", .str "figure"] else inV (V.str k.nm) [.str "letter", .str "figure"]) = decide (k = .letter ∨ k = .figure) from kn_in k]
      have npl : l ≠ p := ne_of_none e1 hp
      by_cases h2 : k = .letter ∨ k = .figure
      · rw [decide_eq_true h2]
        refine iteT ?_
        have h0 : 0 < ws.length := L.ne (hkb ▸ h2)
        have hw : wd ws (ws.length - 1) ∈ ws := List.mem_of_getElem? (wd_get (by omega))
        refine ⟨_, rfl, _, rfl, l, _, _, _, rfl, rfl, SqL.of (by rw [upd_ne npl]; exact e1), at_last (v := .str (wd ws (ws.length - 1))) ?_ (by rw [List.length_map]; exact h0), _, rfl, _, _, rfl, rfl, ?_, l, _, _, ws.length - 1, rfl, rfl, (by rw [upd_ne npl]; exact e1), ?_, ?_⟩
        · rw [List.length_map, List.getElem?_map, wd_get (by omega)]
          rfl
        · have := wl _ hw
          exact big (by show (wd ws (ws.length - 1)).length + 1 ≤ 100000; omega)
        · rw [List.length_map]; exact ixN_last h0
        · have el : lexStep (ws, b) c k = addLast ws c := by
            unfold lexStep
            rw [if_pos ⟨hkb, h2⟩]
          refine ⟨_, rfl, ?_⟩
          refine ⟨addLast ws c, k, _, _, rfl, same_upd (same_upd s1 (s1.free hp) _) hl _, (by rw [upd_same]; exact congrArg (fun l => some (HO.lst l)) map_addLast), ?_⟩
          rw [el] at L'
          exact L'
      · rw [decide_eq_false h2]
        refine iteF ?_
        exact other (fun q => h2 q.2) _ (same_upd s1 (s1.free hp) _) (by rw [upd_ne npl]; exact e1) _ fun H4 s4 e4 => ⟨_, rfl, _, k, _, _, rfl, s4, e4, L'⟩
    · rw [decide_eq_false hkb]
      refine iteF ?_
      exact other (fun q => hkb q.1) _ s1 e1 _ fun H4 s4 e4 => ⟨_, rfl, _, k, _, _, rfl, s4, e4, L'⟩
  · rintro σ H1 ⟨ws, b, v3, v4, rfl, s1, e1, L⟩
    refine ⟨_, rfl, k1 ws ?_ l _ s1 hl e1⟩
    have g := L.go
    rw [List.drop_of_length_le (by rw [Array.length_toList] <;> exact Nat.le_refl _)] at g
    exact g.symm
end
end Aw

namespace Aw
open PySem L2
/-! ### the pieces' makers -/
def spNumP : Sp := fun vs H Q _ => ∃ n, vs = [.int n] ∧ ∀ v H', Same H H' → TA H' v (.num n) → Q v H'
def spNameP : Sp := fun vs H Q _ => ∃ s, vs = [.str s] ∧ ∀ v H', Same H H' → TA H' v (.name s) → Q v H'
def spGateP : Sp := fun vs H Q _ => ∃ s b v t, vs = [.str s, .int b, v] ∧ TA H v t ∧ ∀ v' H', Same H H' → TA H' v' (.gate s b t) → Q v' H'
def spJoinP : Sp := fun vs H Q _ => ∃ (k : Kd) (l : Addr) (xs : List V) (ts : List T), vs = [.str k.nm, .ref l] ∧ H l = some (.lst xs) ∧ TAs H xs ts ∧ ∀ v' H', Same H H' → TA H' v' (.join k ts) → Q v' H'
def spGate (C N : Addr) (f : List Str → Nat → Option (T × Nat)) (dp : Int) : Sp := fun vs H Q E => ∃ p l ws i, vs = [.ref p, .int dp] ∧ RdAt C p l ws i H ∧ WsOk ws ∧ RdOut C N p l ws H Q E (gateM ws (f ws) i)
/-- the constants that are objects of the top -/
structure TxtC (K : PySem.W.Frag) (mg : Str → Option Value) (w : World) : Prop where
  gLv : ∃ a, mg "LEVELS" = some (.ref a) ∧ ∀ H, SqT K H a [.str "most", .str "least", .str "sum"]
  gSg : ∃ a, mg "SIGNS" = some (.ref a) ∧ ∀ k : Kd, KDct K w a k.nm (.str k.sg)
def Adv (f : List Str → Nat → Option (T × Nat)) : Prop := ∀ ws i t j, f ws i = some (t, j) → i < j
theorem chain_adv {ws : List Str} {f : Nat → Option (T × Nat)} (ha : ∀ i t j, f i = some (t, j) → i < j) {sg : Str} : ∀ (n : Nat) {ts ts' : List T} {j j' : Nat}, chainM ws f sg n ts j = some (ts', j') → j ≤ j'
  | 0, _, _, _, _, h => by simp [chainM] at h
  | n + 1, ts, ts', j, j', h => by
    unfold chainM at h
    by_cases c : wd ws j = sg
    · rw [if_pos c] at h
      cases e : f (j + 1) with
      | none => rw [e] at h; cases h
      | some r =>
        obtain ⟨t, k⟩ := r
        rw [e] at h
        have h1 := ha _ _ _ e
        have h2 := chain_adv ha n h
        omega
    · rw [if_neg c] at h
      cases h
      exact Nat.le_refl _
theorem level_adv {f : List Str → Nat → Option (T × Nat)} (ha : Adv f) : ∀ (ks : List Kd), Adv fun ws => levelM ws (f ws) ks
  | [] => fun ws i t j h => ha ws i t j h
  | k :: ks => fun ws i t j h => by
    have ih := level_adv ha ks ws
    dsimp only at h
    unfold levelM at h
    cases e : levelM ws (f ws) ks i with
    | none => rw [e] at h; cases h
    | some r =>
      obtain ⟨t1, j1⟩ := r
      rw [e] at h
      dsimp only at h
      have h1 := ih _ _ _ e
      cases e2 : chainM ws (levelM ws (f ws) ks) k.sg (ws.length + 1) [t1] j1 with
      | none => rw [e2] at h; cases h
      | some r2 =>
        obtain ⟨ts, j2⟩ := r2
        rw [e2] at h
        dsimp only at h
        have h2 := chain_adv (fun i t j q => ih i t j q) _ e2
        cases e3 : joinM k ts with
        | none => rw [e3] at h; cases h
        | some t3 =>
          rw [e3] at h
          cases h
          omega
theorem gate_adv {f : List Str → Nat → Option (T × Nat)} (ha : Adv f) : Adv fun ws => gateM ws (f ws) := fun ws i t j h => by
  dsimp only at h
  unfold gateM at h
  split at h
  · split at h
    · cases h
    · split at h
      · cases e : f ws (i + 3) with
        | none => rw [e] at h; cases h
        | some r =>
          rw [e] at h
          cases h
          have := ha ws (i + 3) r.1 r.2 e
          omega
      · cases h
  · cases h
theorem piece_adv : ∀ d : Nat, Adv fun ws => pieceM ws d
  | 0 => fun ws i t j h => by simp [pieceM] at h
  | d + 1 => fun ws i t j h => by
    have ih := piece_adv d
    dsimp only at h
    unfold pieceM at h
    split at h
    · split at h
      · cases h
      · rename_i t1 j1 e
        have h1 := level_adv ih kinds ws _ _ _ e
        split at h
        · cases h; omega
        · cases h
    · split at h
      · have := gate_adv ih ws _ _ _ h
        omega
      · split at h
        · cases h; omega
        · cases e : numM 0 (wd ws i) with
          | none => rw [e] at h; cases h
          | some n => rw [e] at h; cases h; omega
section
variable {P : Program} {w : World} {K : PySem.W.Frag} {mg : Str → Option Value} {base : Heap} {C N : Addr} {f : Addr} {fd : FuncData}
theorem ok_numP (F : Fun K "number_piece" "number_piece" s_number_piece f fd) : FnOk P w K mg base CX0 1 f fd ["number"] spNumP := by
  refine F.ok sc_number_piece (fun vs H Q E h => ?_) (fun cdv A outer s H vs Q E hr h => ?_)
  · obtain ⟨n, rfl, _⟩ := h
    rfl
  obtain ⟨n, rfl, k⟩ := h
  refine ⟨_, pss_one (ps_ret (pe_tup (pa_cons pe_str (pa_cons (pv 0) pa_nil)))), ?_⟩
  exact ⟨_, rfl, (by show 2 ≤ sizeLine; decide), fun p hp => k _ _ (same_new hp _) (.num upd_same)⟩
theorem ok_nameP (F : Fun K "name_piece" "name_piece" s_name_piece f fd) : FnOk P w K mg base CX0 1 f fd ["name"] spNameP := by
  refine F.ok sc_name_piece (fun vs H Q E h => ?_) (fun cdv A outer s H vs Q E hr h => ?_)
  · obtain ⟨n, rfl, _⟩ := h
    rfl
  obtain ⟨n, rfl, k⟩ := h
  refine ⟨_, pss_one (ps_ret (pe_tup (pa_cons pe_str (pa_cons (pv 0) pa_nil)))), ?_⟩
  exact ⟨_, rfl, (by show 2 ≤ sizeLine; decide), fun p hp => k _ _ (same_new hp _) (.name upd_same)⟩
theorem ok_gateP (F : Fun K "gate_piece" "gate_piece" s_gate_piece f fd) : FnOk P w K mg base CX0 1 f fd ["name", "bound", "piece"] spGateP := by
  refine F.ok sc_gate_piece (fun vs H Q E h => ?_) (fun cdv A outer s H vs Q E hr h => ?_)
  · obtain ⟨s, b, v, t, rfl, _⟩ := h
    rfl
  obtain ⟨s, b, v, t, rfl, ht, k⟩ := h
  refine ⟨_, pss_one (ps_ret (pe_tup (pa_cons pe_str (pa_cons (pv 0) (pa_cons (pv 1) (pa_cons (pv 2) pa_nil)))))), ?_⟩
  exact ⟨_, rfl, _, rfl, _, rfl, (by show 4 ≤ sizeLine; decide), fun p hp => k _ _ (same_new hp _) (.gate upd_same (ht.mono (.of_same (same_new hp _))))⟩
theorem ok_joinP (F : Fun K "joined_piece" "joined_piece" s_joined_piece f fd) (tup : mg "tuple" = none) : FnOk P w K mg base CX0 1 f fd ["kind", "pieces"] spJoinP := by
  refine F.ok sc_joined_piece (fun vs H Q E h => ?_) (fun cdv A outer s H vs Q E hr h => ?_)
  · obtain ⟨kd, l, xs, ts, rfl, _⟩ := h
    rfl
  obtain ⟨kd, l, xs, ts, rfl, hl, ht, k⟩ := h
  refine ⟨_, pss_one (ps_ret (pe_tup (pa_cons (pv 0) (pa_cons (pe_callTy call_tuple_of (by rfl) tup (by decide +kernel) (pa_cons (pv 1) pa_nil)) pa_nil)))), ?_⟩
  refine ⟨_, rfl, _, rfl, l, xs, rfl, .inl ⟨SqL.of hl, fun q hq => ?_⟩⟩
  refine ⟨(by show 2 ≤ sizeLine; decide), fun p hp => ?_⟩
  have s1 := same_new hq (.tup xs)
  have s2 := same_new hp (.tup [.str kd.nm, .ref q])
  exact k _ _ (s1.trans s2) (.join upd_same (s2 _ _ upd_same) (ht.mono (.of_same (s1.trans s2))))
theorem RdOut.mono {C N p l : Addr} {ws : List Str} {H H1 : Hp} {Q : VK} {E : XK} {o : Option (T × Nat)} (b : But p H H1) (h : RdOut C N p l ws H Q E o) : RdOut C N p l ws H1 Q E o := by
  cases o with
  | none => exact fun H' b' => h H' (b.trans b')
  | some r => exact fun v H' b' => h v H' (b.trans b')
/-- every call of a method that raises nothing -/
theorem RdAt.dx {C p l : Addr} {ws : List Str} {i : Nat} {H : Hp} (h : RdAt C p l ws i H) : ∃ dx, H p = some (.ins C dx (rflds l i)) := h.ob
theorem str_dec (a b : Str) : decide (V.str a = V.str b) = decide (a = b) := by
  by_cases h : a = b
  · rw [decide_eq_true h, decide_eq_true (by rw [h])]
  · rw [decide_eq_false h, decide_eq_false (by intro q; exact h (V.str.inj q))]
theorem ok_piece0 (F : Fun K "read_piece" "read_piece" s_read_piece f fd) (T : Txt K mg C N) {k : Nat} : FnOk P w K mg base (L2.CX P w) (k + 1) f fd ["reader", "deep"] (spPiece C N (fun ws => pieceM ws 0) 3) := by
  refine F.okX sc_read_piece (fun vs H Q E h => ?_) (fun cdv A outer s H vs Q E hr h => ?_)
  · obtain ⟨p, l, ws, i, rfl, _⟩ := h
    rfl
  obtain ⟨p, l, ws, i, rfl, R, W, q⟩ := h
  refine ⟨_, pss_cons (ps_if (pt_cmpR op_gt (pv 1) (pe_gI T.gDe) (nomark _)) (pss_one (ps_raise (W := fun cls d _ H => E cls d H) rfl (takes_of rfl rfl rfl rfl) (pmk_own PySem.F.excBase_ValueError T.xN T.gN T.kN (raises_own T.bN T.tN) rfl))) pss_nil)
    (pss_cons ps_never (pss_cons ps_never (pss_cons ps_never (pss_cons ps_never (pss_one ps_never))))), ?_⟩
  refine ⟨_, rfl, _, _, rfl, rfl, _, rfl, iteT ?_⟩
  exact q H (But.refl p H)
structure Mths (K : PySem.W.Frag) (C fA fT fX : Addr) : Prop where
  mA : Meth K C "ahead" fA
  mT : Meth K C "taken" fT
  mX : Meth K C "expect" fX
/-- the smaller defs as they are called by the reading -/
structure Low (P : Program) (w : World) (K : PySem.W.Frag) (mg : Str → Option Value) (base : Heap) (C N : Addr) : Prop where
  A : ∃ f fd, FnOk P w K mg base CX0 1 f fd ["self"] (spAhead C) ∧ Binds K fd ["self"] [] ∧ Meth K C "ahead" f
  T : ∃ f fd, FnOk P w K mg base CX0 2 f fd ["self"] (spTaken C) ∧ Binds K fd ["self"] [] ∧ Meth K C "taken" f
  X : ∃ f fd, FnOk P w K mg base (L2.CX P w) 3 f fd ["self", "word"] (spExpect C N) ∧ Binds K fd ["self", "word"] [] ∧ Meth K C "expect" f
  nm : ∃ f fd, FnOk P w K mg base CX0 1 f fd ["text"] spName ∧ Binds K fd ["text"] [] ∧ PySem.W.keepIn K (.ref f) = true ∧ mg "is_name" = some (.ref f)
  nu : ∃ f fd, FnOk P w K mg base (L2.CX P w) 1 f fd ["word", "lowest"] (spNum N) ∧ Binds K fd ["word", "lowest"] [] ∧ PySem.W.keepIn K (.ref f) = true ∧ mg "number_of" = some (.ref f)
  pN : ∃ f fd, FnOk P w K mg base CX0 1 f fd ["number"] spNumP ∧ Binds K fd ["number"] [] ∧ PySem.W.keepIn K (.ref f) = true ∧ mg "number_piece" = some (.ref f)
  pS : ∃ f fd, FnOk P w K mg base CX0 1 f fd ["name"] spNameP ∧ Binds K fd ["name"] [] ∧ PySem.W.keepIn K (.ref f) = true ∧ mg "name_piece" = some (.ref f)
  pG : ∃ f fd, FnOk P w K mg base CX0 1 f fd ["name", "bound", "piece"] spGateP ∧ Binds K fd ["name", "bound", "piece"] [] ∧ PySem.W.keepIn K (.ref f) = true ∧ mg "gate_piece" = some (.ref f)
  pJ : ∃ f fd, FnOk P w K mg base CX0 1 f fd ["kind", "pieces"] spJoinP ∧ Binds K fd ["kind", "pieces"] [] ∧ PySem.W.keepIn K (.ref f) = true ∧ mg "joined_piece" = some (.ref f)
theorem len_lit {n : Nat} {z : Str} (h : z.length = n) (hn : n ≤ 1000) : z.length ≤ 1000 := h ▸ hn
theorem ok_gate {fs : List Str → Nat → Option (Aw.T × Nat)} {dp : Int} {g : Addr} {gd : FuncData} {k : Nat} (hk : 3 ≤ k) (F : Fun K "read_gate" "read_gate" s_read_gate f fd) (T : Txt K mg C N) (L : Low P w K mg base C N)
    (GP : FnOk P w K mg base (L2.CX P w) k g gd ["reader", "deep"] (spPiece C N fs (dp + 1))) (bP : Binds K gd ["reader", "deep"] []) (kP : PySem.W.keepIn K (.ref g) = true) (mP : mg "read_piece" = some (.ref g)) :
    FnOk P w K mg base (L2.CX P w) (k + 1) f fd ["reader", "deep"] (spGate C N fs dp) := by
  obtain ⟨fT, dT, GT, bT, mT⟩ := L.T
  obtain ⟨fX, dX, GX, bX, mX⟩ := L.X
  obtain ⟨fn, dn, Gn, bn, kn, mn⟩ := L.nm
  obtain ⟨fu, du, Gu, bu, ku, mu⟩ := L.nu
  obtain ⟨fg, dg, Gg, bg, kg, mg'⟩ := L.pG
  refine F.okX sc_read_gate (fun vs H Q E h => ?_) (fun cdv A outer s H vs Q E hr h => ?_)
  · obtain ⟨p, l, ws, i, rfl, _⟩ := h
    rfl
  obtain ⟨p, l, ws, i, rfl, R, W, q⟩ := h
  have nd := sc_read_gate.nd
  have hr1 : Room 1 _ := hr.mono (by omega)
  have hr2 : Room 2 _ := hr.mono (by omega)
  have hr3 : Room 3 _ := hr.mono (by omega)
  refine ⟨_, pss_cons (ps_set (i := 2) nd rfl (.inl rfl) (pe_meth0 (pv 0) T.cl mT GT hr2 bT .nil pass0))
    (pss_cons (ps_if (pt_not (pt_val (pe_call Gn hr1 rfl mn kn bn .nil pass0 (pa_cons (pv 2) pa_nil))))
      (pss_one (ps_raise (W := fun cls d _ H => E cls d H) rfl (takes_of rfl rfl rfl rfl) (pmk_own PySem.F.excBase_ValueError T.xN T.gN T.kN (raises_own T.bN T.tN) rfl))) pss_nil)
    (pss_cons (ps_set (i := 3) nd rfl (.inl rfl) (pe_call (E := E) Gu hr1 rfl mu ku bu .nil (passes_call (W := fun cls d _ H => E cls d H) (takes_of rfl rfl rfl rfl) (fun _ _ _ _ h => h)) (pa_cons (pe_meth0 (pv 0) T.cl mT GT hr2 bT .nil pass0) (pa_cons pe_int pa_nil))))
    (pss_cons (ps_expr (pe_meth (E := E) (pv 0) T.cl mX GX hr3 bX .nil (passes_call (W := fun cls d _ H => E cls d H) (takes_of rfl rfl rfl rfl) (fun _ _ _ _ h => h)) (pa_cons pe_str pa_nil)))
    (pss_one (ps_ret (pe_call Gg hr1 rfl mg' kg bg .nil pass0 (pa_cons (pv 2) (pa_cons (pv 3) (pa_cons
      (pe_call (E := E) GP hr rfl mP kP bP .nil (passes_call (W := fun cls d _ H => E cls d H) (takes_of rfl rfl rfl rfl) (fun _ _ _ _ h => h)) (pa_cons (pv 0) (pa_cons (pe_op op_add (pv 1) pe_int) pa_nil))) pa_nil))))))))), ?_⟩
  have an : ∀ i, (rflds l i).lookup ("taken" : Str) = none := fun i => rflds_no _ _ (by decide +kernel) (by decide +kernel)
  have ax : ∀ i, (rflds l i).lookup ("expect" : Str) = none := fun i => rflds_no _ _ (by decide +kernel) (by decide +kernel)
  obtain ⟨dx, hp⟩ := R.ob
  refine ⟨_, rfl, p, dx, _, rfl, hp, an _, p, l, ws, i, rfl, R, fun H1 b1 R1 => ?_⟩
  refine ⟨_, rfl, wd ws i, rfl, W.wd i, fun H2 s2 => ?_⟩
  have R2 := R1.mono s2
  have b2 : But p H H2 := b1.trans (.of_same s2)
  refine ⟨_, rfl, ?_⟩
  unfold gateM at q
  cases e : nameM (wd ws i) with
  | false =>
    rw [e, if_neg Bool.false_ne_true] at q
    exact iteT (q H2 b2)
  | true =>
    rw [e, if_pos rfl] at q
    refine iteF ?_
    obtain ⟨dx2, hp2⟩ := R2.ob
    refine ⟨_, rfl, p, dx2, _, rfl, hp2, an _, p, l, ws, i + 1, rfl, R2, fun H3 b3 R3 => ?_⟩
    have b3' := b2.trans b3
    refine ⟨wd ws (i + 1), 1, rfl, by decide, by decide, fun n hn => ?_, fun hn => ?_⟩
    · rw [hn] at q
      dsimp only at q
      obtain ⟨dx3, hp3⟩ := R3.ob
      refine ⟨_, rfl, p, dx3, _, rfl, hp3, ax _, p, l, ws, i + 1 + 1, "]", rfl, R3, (by decide +kernel), W.ws, fun e2 H4 b4 R4 => ?_, fun e2 H4 b4 => ?_⟩
      · rw [show wd ws (i + 2) = "]" from e2, if_pos rfl] at q
        have b4' := b3'.trans b4
        refine ⟨_, rfl, _, rfl, _, rfl, _, rfl, _, _, rfl, rfl, p, l, ws, i + 3, rfl, R4, W, ?_⟩
        cases e3 : fs ws (i + 3) with
        | none =>
          rw [e3] at q
          exact fun H5 b5 => q H5 (b4'.trans b5)
        | some r =>
          obtain ⟨t, j⟩ := r
          rw [e3] at q
          intro v H5 b5 R5 tv
          refine ⟨wd ws i, n, v, t, rfl, tv, fun v' H6 s6 tv' => ?_⟩
          exact q v' H6 ((b4'.trans b5).trans (.of_same s6)) (R5.mono s6) tv'
      · rw [if_neg (show ¬ wd ws (i + 2) = "]" from e2)] at q
        exact q H4 (b3'.trans b4)
    · rw [hn] at q
      exact q H3 b3'
end
end Aw

namespace Aw
open PySem L2
section
variable {P : Program} {w : World} {K : PySem.W.Frag} {mg : Str → Option Value} {base : Heap} {C N : Addr} {f : Addr} {fd : FuncData}
theorem ok_pieceS {d : Nat} {dp : Int} (hdp : dp ≤ 2) {gl gg : Addr} {ld gd : FuncData} {k : Nat} (hk : 3 ≤ k) (F : Fun K "read_piece" "read_piece" s_read_piece f fd) (T : Txt K mg C N) (L : Low P w K mg base C N)
    (GL : FnOk P w K mg base (L2.CX P w) k gl ld ["reader", "level", "deep"] (spLevel C N kinds (fun ws => pieceM ws d) 0 (dp + 1))) (bL : Binds K ld ["reader", "level", "deep"] []) (kL : PySem.W.keepIn K (.ref gl) = true) (mL : mg "read_level" = some (.ref gl))
    (GG : FnOk P w K mg base (L2.CX P w) k gg gd ["reader", "deep"] (spGate C N (fun ws => pieceM ws d) dp)) (bG : Binds K gd ["reader", "deep"] []) (kG : PySem.W.keepIn K (.ref gg) = true) (mG : mg "read_gate" = some (.ref gg)) :
    FnOk P w K mg base (L2.CX P w) (k + 1) f fd ["reader", "deep"] (spPiece C N (fun ws => pieceM ws (d + 1)) dp) := by
  obtain ⟨fT, dT, GT, bT, mT⟩ := L.T
  obtain ⟨fX, dX, GX, bX, mX⟩ := L.X
  obtain ⟨fn, dn, Gn, bn, kn, mn⟩ := L.nm
  obtain ⟨fu, du, Gu, bu, ku, mu⟩ := L.nu
  obtain ⟨fs, ds, Gs, bs, ks, ms⟩ := L.pS
  obtain ⟨fN, dN, GN, bN, kN, mN⟩ := L.pN
  refine F.okX sc_read_piece (fun vs H Q E h => ?_) (fun cdv A outer s H vs Q E hr h => ?_)
  · obtain ⟨p, l, ws, i, rfl, _⟩ := h
    rfl
  obtain ⟨p, l, ws, i, rfl, R, W, q⟩ := h
  have nd := sc_read_piece.nd
  have hr1 : Room 1 _ := hr.mono (by omega)
  have hr2 : Room 2 _ := hr.mono (by omega)
  have hr3 : Room 3 _ := hr.mono (by omega)
  refine ⟨_, pss_cons (ps_if (pt_cmpR op_gt (pv 1) (pe_gI T.gDe) (nomark _)) (pss_one (ps_raise (W := fun cls d _ H => E cls d H) rfl (takes_of rfl rfl rfl rfl) (pmk_own PySem.F.excBase_ValueError T.xN T.gN T.kN (raises_own T.bN T.tN) rfl))) pss_nil)
    (pss_cons (ps_set (i := 2) nd rfl (.inl rfl) (pe_meth0 (pv 0) T.cl mT GT hr2 bT .nil pass0))
    (pss_cons (ps_if (pt_cmpR op_eq (pv 2) pe_str (nomark _))
      (pss_cons (ps_set (i := 3) nd rfl (.inl rfl) (pe_call (E := E) GL hr rfl mL kL bL .nil (passes_call (W := fun cls d _ H => E cls d H) (takes_of rfl rfl rfl rfl) (fun _ _ _ _ h => h)) (pa_cons (pv 0) (pa_cons pe_int (pa_cons (pe_op op_add (pv 1) pe_int) pa_nil)))))
      (pss_cons (ps_expr (pe_meth (E := E) (pv 0) T.cl mX GX hr3 bX .nil (passes_call (W := fun cls d _ H => E cls d H) (takes_of rfl rfl rfl rfl) (fun _ _ _ _ h => h)) (pa_cons pe_str pa_nil)))
      (pss_one (ps_ret (pv 3))))) pss_nil)
    (pss_cons (ps_if (pt_cmpR op_eq (pv 2) pe_str (nomark _))
      (pss_one (ps_ret (pe_call (E := E) GG hr rfl mG kG bG .nil (passes_call (W := fun cls d _ H => E cls d H) (takes_of rfl rfl rfl rfl) (fun _ _ _ _ h => h)) (pa_cons (pv 0) (pa_cons (pv 1) pa_nil))))) pss_nil)
    (pss_cons (ps_if (pt_val (pe_call Gn hr1 rfl mn kn bn .nil pass0 (pa_cons (pv 2) pa_nil)))
      (pss_one (ps_ret (pe_call Gs hr1 rfl ms ks bs .nil pass0 (pa_cons (pv 2) pa_nil)))) pss_nil)
    (pss_one (ps_ret (pe_call GN hr1 rfl mN kN bN .nil pass0 (pa_cons (pe_call (E := E) Gu hr1 rfl mu ku bu .nil (passes_call (W := fun cls d _ H => E cls d H) (takes_of rfl rfl rfl rfl) (fun _ _ _ _ h => h)) (pa_cons (pv 2) (pa_cons pe_int pa_nil))) pa_nil)))))))), ?_⟩
  have an : ∀ i, (rflds l i).lookup ("taken" : Str) = none := fun i => rflds_no _ _ (by decide +kernel) (by decide +kernel)
  have ax : ∀ i, (rflds l i).lookup ("expect" : Str) = none := fun i => rflds_no _ _ (by decide +kernel) (by decide +kernel)
  obtain ⟨dx, hp⟩ := R.ob
  refine ⟨_, rfl, _, _, rfl, rfl, _, rfl, ?_⟩
  rw [show decide ((2 : Int) < dp) = false from decide_eq_false (by omega)]
  refine iteF ⟨_, rfl, p, dx, _, rfl, hp, an _, p, l, ws, i, rfl, R, fun H1 b1 R1 => ?_⟩
  refine ⟨_, rfl, rfl, _, rfl, ?_⟩
  rw [str_dec]
  have q : RdOut C N p l ws H Q E (pieceM ws (d + 1) i) := q
  unfold pieceM at q
  by_cases c1 : wd ws i = "("
  · rw [decide_eq_true c1]
    rw [if_pos c1] at q
    refine iteT ⟨_, rfl, _, rfl, _, _, rfl, rfl, p, l, ws, i + 1, rfl, R1, W, ?_⟩
    cases e : levelM ws (pieceM ws d) kinds (i + 1) with
    | none =>
      rw [e] at q
      exact fun H2 b2 => q H2 (b1.trans b2)
    | some r =>
      obtain ⟨t, j⟩ := r
      rw [e] at q
      dsimp only at q
      intro v H2 b2 R2 tv
      obtain ⟨dx2, hp2⟩ := R2.ob
      refine ⟨_, rfl, p, dx2, _, rfl, hp2, ax _, p, l, ws, j, ")", rfl, R2, (by decide +kernel), W.ws, fun e2 H3 b3 R3 => ?_, fun e2 H3 b3 => ?_⟩
      · rw [if_pos e2] at q
        exact ⟨_, rfl, q v H3 ((b1.trans b2).trans b3) R3 (tv.mono (R2.tups b3))⟩
      · rw [if_neg e2] at q
        exact q H3 ((b1.trans b2).trans b3)
  · rw [decide_eq_false c1]
    rw [if_neg c1] at q
    refine iteF ⟨_, rfl, rfl, _, rfl, ?_⟩
    rw [str_dec]
    by_cases c2 : wd ws i = "["
    · rw [decide_eq_true c2]
      rw [if_pos c2] at q
      exact iteT ⟨_, rfl, _, rfl, p, l, ws, i + 1, rfl, R1, W, q.mono b1⟩
    · rw [decide_eq_false c2]
      rw [if_neg c2] at q
      refine iteF ⟨_, rfl, wd ws i, rfl, W.wd i, fun H2 s2 => ?_⟩
      have R2 := R1.mono s2
      have b2 : But p H H2 := b1.trans (.of_same s2)
      refine ⟨_, rfl, ?_⟩
      cases e : nameM (wd ws i) with
      | true =>
        rw [e, if_pos rfl] at q
        exact iteT ⟨_, rfl, wd ws i, rfl, fun v H3 s3 tv => q v H3 (b2.trans (.of_same s3)) (R2.mono s3) tv⟩
      | false =>
        rw [e, if_neg Bool.false_ne_true] at q
        refine iteF ⟨_, rfl, wd ws i, 0, rfl, by decide, by decide, fun n hn => ?_, fun hn => ?_⟩
        · rw [hn] at q
          exact ⟨n, rfl, fun v H3 s3 tv => q v H3 (b2.trans (.of_same s3)) (R2.mono s3) tv⟩
        · rw [hn] at q
          exact q H2 b2
theorem ok_level_end {fs : List Str → Nat → Option (Aw.T × Nat)} {dp : Int} {g : Addr} {gd : FuncData} {k : Nat} (F : Fun K "read_level" "read_level" s_read_level f fd) (T : Txt K mg C N) (TC : TxtC K mg w)
    (GP : FnOk P w K mg base (L2.CX P w) k g gd ["reader", "deep"] (spPiece C N fs dp)) (bP : Binds K gd ["reader", "deep"] []) (kP : PySem.W.keepIn K (.ref g) = true) (mP : mg "read_piece" = some (.ref g)) :
    FnOk P w K mg base (L2.CX P w) (k + 1) f fd ["reader", "level", "deep"] (spLevel C N [] fs 3 dp) := by
  obtain ⟨aL, gL, tL⟩ := TC.gLv
  refine F.okX sc_read_level (fun vs H Q E h => ?_) (fun cdv A outer s H vs Q E hr h => ?_)
  · obtain ⟨p, l, ws, i, rfl, _⟩ := h
    rfl
  obtain ⟨p, l, ws, i, rfl, R, W, q⟩ := h
  refine ⟨_, pss_cons (ps_if (pt_cmpR op_eq (pv 1) (pe_callB call_len_seq (by rfl) T.len PySem.boot_len (pa_cons (pe_glob (v := .ref aL) rfl gL rfl) pa_nil)) (nomark _))
      (pss_one (ps_ret (pe_call (E := E) GP hr rfl mP kP bP .nil (passes_call (W := fun cls d _ H => E cls d H) (takes_of rfl rfl rfl rfl) (fun _ _ _ _ h => h)) (pa_cons (pv 0) (pa_cons (pv 2) pa_nil))))) pss_nil)
    (pss_cons ps_never (pss_cons ps_never (pss_cons ps_never (pss_cons ps_never (pss_cons ps_never (pss_one ps_never)))))), ?_⟩
  refine ⟨_, rfl, aL, _, rfl, .inr (tL H), rfl, _, rfl, iteT ?_⟩
  exact ⟨_, rfl, _, rfl, p, l, ws, i, rfl, R, W, q⟩
def lvOf : Kd → Int
  | .most => 0
  | .least => 1
  | .sum => 2
theorem ok_level_step {fs : List Str → Nat → Option (Aw.T × Nat)} (ha : Adv fs) {kd : Kd} {ks : List Kd} {dp : Int} {k : Nat} (hk : 3 ≤ k) (F : Fun K "read_level" "read_level" s_read_level f fd) (T : Txt K mg C N) (TC : TxtC K mg w) (L : Low P w K mg base C N)
    (GL : FnOk P w K mg base (L2.CX P w) k f fd ["reader", "level", "deep"] (spLevel C N ks fs (lvOf kd + 1) dp)) (bL : Binds K fd ["reader", "level", "deep"] []) (kL : PySem.W.keepIn K (.ref f) = true) (mL : mg "read_level" = some (.ref f)) :
    FnOk P w K mg base (L2.CX P w) (k + 1) f fd ["reader", "level", "deep"] (spLevel C N (kd :: ks) fs (lvOf kd) dp) := by
  obtain ⟨aL, gL, tL⟩ := TC.gLv
  obtain ⟨aS, gS, tS⟩ := TC.gSg
  obtain ⟨fA, dA, GA, bA, mA⟩ := L.A
  obtain ⟨fT, dT, GT, bT, mT⟩ := L.T
  obtain ⟨fJ, dJ, GJ, bJ, kJ, mJ⟩ := L.pJ
  refine F.okX sc_read_level (fun vs H Q E h => ?_) (fun cdv A outer s H vs Q E hr h => ?_)
  · obtain ⟨p, l, ws, i, rfl, _⟩ := h
    rfl
  obtain ⟨p, l, ws, i, rfl, R, W, q⟩ := h
  have nd := sc_read_level.nd
  have hr1 : Room 1 _ := hr.mono (by omega)
  have hr2 : Room 2 _ := hr.mono (by omega)
  refine ⟨_, pss_cons (ps_if (pt_cmpR op_eq (pv 1) (pe_callB call_len_seq (by rfl) T.len PySem.boot_len (pa_cons (pe_glob (v := .ref aL) rfl gL rfl) pa_nil)) (nomark _)) (pss_one ps_never) pss_nil)
    (pss_cons (ps_set (i := 3) nd rfl (.inl rfl) (pe_ix ix_tup (pe_glob (v := .ref aL) rfl gL rfl) (pv 1) (fun _ _ => rfl)))
    (pss_cons (ps_set (i := 4) nd rfl (.inl rfl) (pe_lst (pa_cons (pe_call (E := E) GL hr rfl mL kL bL .nil (passes_call (W := fun cls d _ H => E cls d H) (takes_of rfl rfl rfl rfl) (fun _ _ _ _ h => h)) (pa_cons (pv 0) (pa_cons (pe_op op_add (pv 1) pe_int) (pa_cons (pv 2) pa_nil)))) pa_nil)))
    (pss_cons (ps_while (passes_of rfl) (pt_cmpR op_eq (pe_meth0 (pv 0) T.cl mA GA hr1 bA .nil pass0) (pe_ix ix_kdict (pe_glob (v := .ref aS) rfl gS rfl) (pv 3) (fun _ _ => rfl)) (nomark _))
      (pss_cons (ps_expr (pe_meth0 (pv 0) T.cl mT GT hr2 bT .nil pass0))
      (pss_one (ps_expr (pe_bm PySem.F.plainAttrs_list PySem.F.slot_list_append PySem.F.type_list_append mt_append (pv 4) (pa_cons (pe_call (E := E) GL hr rfl mL kL bL .nil (passes_call (W := fun cls d _ H => E cls d H) (takes_of rfl rfl rfl rfl) (fun _ _ _ _ h => h)) (pa_cons (pv 0) (pa_cons (pe_op op_add (pv 1) pe_int) (pa_cons (pv 2) pa_nil)))) pa_nil))))))
    (pss_cons (ps_if (pt_cmpR op_gt (pe_callB call_len_seq (by rfl) T.len PySem.boot_len (pa_cons (pv 4) pa_nil)) (pe_gI T.gMP) (nomark _))
      (pss_one (ps_raise (W := fun cls d _ H => E cls d H) rfl (takes_of rfl rfl rfl rfl) (pmk_own PySem.F.excBase_ValueError T.xN T.gN T.kN (raises_own T.bN T.tN) rfl))) pss_nil)
    (pss_cons (ps_if (pt_cmpR op_eq (pe_callB call_len_seq (by rfl) T.len PySem.boot_len (pa_cons (pv 4) pa_nil)) pe_int (nomark _)) (pss_one (ps_ret (pe_ix ix_list (pv 4) pe_int (fun _ _ => rfl)))) pss_nil)
    (pss_one (ps_ret (pe_call GJ hr1 rfl mJ kJ bJ .nil pass0 (pa_cons (pv 3) (pa_cons (pv 4) pa_nil)))))))))), ?_⟩
  have al : ∀ i, (rflds l i).lookup ("ahead" : Str) = none := fun i => rflds_no _ _ (by decide +kernel) (by decide +kernel)
  have an : ∀ i, (rflds l i).lookup ("taken" : Str) = none := fun i => rflds_no _ _ (by decide +kernel) (by decide +kernel)
  have adv := level_adv ha ks ws
  refine ⟨_, rfl, aL, _, rfl, .inr (tL H), rfl, _, rfl, ?_⟩
  rw [show decide (V.int (lvOf kd) = V.int ((([.str "most", .str "least", .str "sum"] : List V).length : Nat) : Int)) = false from by cases kd <;> decide]
  refine iteF ⟨_, rfl, aL, _, _, .str kd.nm, rfl, rfl, tL H, (by cases kd <;> rfl), ?_⟩
  refine ⟨_, rfl, _, rfl, _, _, rfl, rfl, _, rfl, p, l, ws, i, rfl, R, W, ?_⟩
  unfold levelM at q
  cases e : levelM ws (fs ws) ks i with
  | none =>
    rw [e] at q
    exact q
  | some r =>
    obtain ⟨t, j⟩ := r
    rw [e] at q
    dsimp only at q
    intro v H1 b1 R1 tv
    refine ⟨(by show 1 ≤ sizeLine; decide), fun a hna => ?_⟩
    have hpa : p ≠ a := R1.ne_new hna
    have hna0 : H a = none := by
      cases e0 : H a with
      | none => rfl
      | some o =>
        have := b1 a o e0 hpa.symm
        rw [hna] at this
        cases this
    have bu : ∀ {H2 : Hp} (o : HO), But p H H2 → But p H (upd H2 a o) := fun o b c u hc hcp => by
      rw [upd_ne (ne_of_none hc hna0)]
      exact b c u hc hcp
    have hlen : ws.length ≤ 1000 := R.ln
    generalize eR : chainM ws (levelM ws (fs ws) ks) kd.sg (ws.length + 1) [t] j = RES at q
    refine ⟨fun n σ H' => ∃ ts vs j', σ = [some (.ref p), some (.int (lvOf kd)), some (.int dp), some (.str kd.nm), some (.ref a)] ∧ But p H H' ∧ RdAt C p l ws j' H' ∧ H' a = some (.lst vs) ∧ TAs H' vs ts ∧ 0 < ts.length ∧ ts.length ≤ j' ∧
      (ts.length ≤ ws.length + 1) ∧ chainM ws (levelM ws (fs ws) ks) kd.sg n ts j' = RES ∧ 0 < n ∧ ws.length < n + j', ⟨ws.length + 1, [t], [v], j, rfl, bu _ b1, R1.mono (same_new hna _), upd_same, .cons (tv.mono (.of_same (same_new hna _))) .nil, Nat.zero_lt_one, ?_, ?_, eR, by omega, by omega⟩, ?_⟩
    · have := adv _ _ _ e
      show 1 ≤ j
      omega
    · show 1 ≤ _
      omega
    rintro n σ H2 ⟨ts, vs, j', rfl, b2, R2, e2, tvs, h0, hj, hw, ec, hn0, hf⟩
    obtain ⟨dx2, hp2⟩ := R2.ob
    refine ⟨_, rfl, p, dx2, _, rfl, hp2, al _, p, l, ws, j', rfl, R2, ?_⟩
    refine ⟨_, rfl, aS, kd.nm, _, rfl, rfl, tS kd, rfl, _, rfl, ?_⟩
    rw [str_dec]
    cases n with
    | zero => exact absurd hn0 (Nat.lt_irrefl 0)
    | succ n =>
      unfold chainM at ec
      by_cases c : wd ws j' = kd.sg
      · rw [if_pos c] at ec
        rw [decide_eq_true c]
        have hjl : j' < ws.length := wd_lt c (by cases kd <;> decide +kernel)
        refine iteT ⟨_, fun σ' H' h => ⟨n, Nat.lt_succ_self n, h⟩, ?_⟩
        refine ⟨_, rfl, p, dx2, _, rfl, hp2, an _, p, l, ws, j', rfl, R2, fun H3 b3 R3 => ?_⟩
        have e3 : H3 a = some (.lst vs) := b3 _ _ e2 hpa.symm
        refine ⟨_, rfl, .inl ⟨rfl, _, SqL.of e3⟩, _, rfl, _, rfl, _, _, rfl, rfl, _, rfl, p, l, ws, j' + 1, rfl, R3, W, ?_⟩
        have tvs3 := tvs.mono (R2.tups b3)
        cases e5 : levelM ws (fs ws) ks (j' + 1) with
        | none =>
          rw [e5] at ec
          subst ec
          exact fun H4 b4 => q H4 ((b2.trans b3).trans b4)
        | some r5 =>
          obtain ⟨t5, j5⟩ := r5
          rw [e5] at ec
          dsimp only at ec
          have h5 := adv _ _ _ e5
          intro v5 H4 b4 R4 tv5
          have e4 : H4 a = some (.lst vs) := b4 _ _ e3 hpa.symm
          have hvl := tvs.length
          have tvs4 := tvs3.mono (R3.tups b4)
          have tu : Tups H4 (upd H4 a (.lst (vs ++ [v5]))) := fun b xs hb => by
            rw [upd_ne (ne_of hb e4 (by intro z; cases z))]
            exact hb
          have hla : l ≠ a := by
            intro z
            subst z
            have z1 := R1.ls
            rw [hna] at z1
            cases z1
          refine ⟨a, _, _, rfl, rfl, e4, small1000 (by omega), ts ++ [t5], vs ++ [v5], j5, rfl, bu _ ((b2.trans b3).trans b4), ?_, upd_same, ((TAs.snoc tv5 tvs4).mono tu), ?_, ?_, ?_, ec, ?_, ?_⟩
          · obtain ⟨dx4, hp4⟩ := R4.ob
            exact ⟨⟨dx4, by rw [upd_ne hpa]; exact hp4⟩, by rw [upd_ne hla]; exact R4.ls, R4.ln⟩
          all_goals (try rw [List.length_append, List.length_singleton])
          all_goals omega
      · rw [if_neg c] at ec
        rw [decide_eq_false c]
        subst ec
        dsimp only at q
        refine iteF ⟨_, rfl, a, _, rfl, .inl (SqL.of e2), _, _, rfl, rfl, _, rfl, ?_⟩
        rw [tvs.length]
        unfold joinM at q
        by_cases c8 : 8 < ts.length
        · rw [if_pos c8] at q
          rw [show decide ((8 : Int) < ((ts.length : Nat) : Int)) = true from decide_eq_true (by omega)]
          exact iteT (q H2 b2)
        · rw [if_neg c8] at q
          rw [show decide ((8 : Int) < ((ts.length : Nat) : Int)) = false from decide_eq_false (by omega)]
          refine iteF ⟨_, rfl, a, _, rfl, .inl (SqL.of e2), rfl, _, rfl, ?_⟩
          rw [tvs.length]
          match ts, vs, tvs, h0, q with
          | [], _, _, h0, _ => exact absurd h0 (Nat.lt_irrefl 0)
          | [t1], [v1], .cons ta _, _, q =>
            refine iteT ⟨_, rfl, a, _, _, v1, rfl, rfl, SqL.of e2, rfl, ?_⟩
            exact q v1 H2 b2 R2 ta
          | t1 :: t2 :: r, _, tvs, _, q =>
            rw [show decide (V.int (((t1 :: t2 :: r).length : Nat) : Int) = V.int 1) = false from decide_eq_false (by intro z; have := V.int.inj z; simp only [List.length_cons] at this; omega)]
            refine iteF ⟨_, rfl, _, rfl, kd, a, _, _, rfl, e2, tvs, fun v' H3 s3 tv' => ?_⟩
            exact q v' H3 (b2.trans (.of_same s3)) (R2.mono s3) tv'
end
end Aw

namespace Aw
open PySem L2
theorem lexStep_wl {ws : List Str} {b k : Kn} {c i : Nat} (h : ∀ w ∈ ws, w.length ≤ i) : ∀ w ∈ lexStep (ws, b) c k, w.length ≤ i + 1 := by
  intro w hw
  unfold lexStep at hw
  dsimp only at hw
  split at hw
  · exact mem_addLast h hw
  · split at hw
    · rcases List.mem_append.mp hw with q | q
      · exact Nat.le_succ_of_le (h _ q)
      · rw [List.mem_singleton.mp q, len_sg1]; omega
    · exact Nat.le_succ_of_le (h _ hw)
theorem lexStep_len {ws : List Str} {b k : Kn} {c i : Nat} (h : ws.length ≤ i) : (lexStep (ws, b) c k).length ≤ i + 1 := by
  unfold lexStep
  dsimp only
  split
  · unfold addLast
    rw [List.length_set]; omega
  · split
    · rw [List.length_append, List.length_singleton]; omega
    · omega
theorem lexGo_bound : ∀ (cs : List Nat) (ws : List Str) (b : Kn) (i : Nat) {ws' : List Str}, (∀ w ∈ ws, w.length ≤ i) → ws.length ≤ i → lexGo cs ws b = some ws' → (∀ w ∈ ws', w.length ≤ i + cs.length) ∧ ws'.length ≤ i + cs.length
  | [], ws, b, i, ws', h1, h2, h => by
    unfold lexGo at h
    cases h
    exact ⟨h1, h2⟩
  | c :: r, ws, b, i, ws', h1, h2, h => by
    unfold lexGo at h
    cases e : kindM c with
    | none => rw [e] at h; cases h
    | some k =>
      rw [e] at h
      have q := lexGo_bound r _ _ (i + 1) (lexStep_wl h1) (lexStep_len h2) h
      have e1 : i + 1 + r.length = i + (c :: r).length := by rw [List.length_cons]; omega
      rw [e1] at q
      exact q
theorem lexM_ok {z : Str} {ws : List Str} (h : lexM z = some ws) : (∀ w ∈ ws, w.length ≤ z.length) ∧ ws.length ≤ z.length := by
  have q := lexGo_bound z.cps.toList [] .blank 0 (fun _ h => by cases h) (Nat.le_refl 0) h
  rw [Nat.zero_add, Array.length_toList] at q
  exact q
/-- the three of the reading that call one another, as they stand -/
structure Rec (K : PySem.W.Frag) (mg : Str → Option Value) (fl fp fg : Addr) (dl dp dg : FuncData) : Prop where
  FL : Fun K "read_level" "read_level" s_read_level fl dl
  FP : Fun K "read_piece" "read_piece" s_read_piece fp dp
  FG : Fun K "read_gate" "read_gate" s_read_gate fg dg
  bL : Binds K dl ["reader", "level", "deep"] []
  bP : Binds K dp ["reader", "deep"] []
  bG : Binds K dg ["reader", "deep"] []
  mL : mg "read_level" = some (.ref fl)
  mP : mg "read_piece" = some (.ref fp)
  mG : mg "read_gate" = some (.ref fg)
section
variable {P : Program} {w : World} {K : PySem.W.Frag} {mg : Str → Option Value} {base : Heap} {C N : Addr} {f : Addr} {fd : FuncData} {fl fp fg : Addr} {dl dp dg : FuncData}
theorem level_all {fs : List Str → Nat → Option (Aw.T × Nat)} (ha : Adv fs) {dq : Int} {k : Nat} (hk : 3 ≤ k) (T : Txt K mg C N) (TC : TxtC K mg w) (L : Low P w K mg base C N) (R : Rec K mg fl fp fg dl dp dg)
    (GP : FnOk P w K mg base (L2.CX P w) k fp dp ["reader", "deep"] (spPiece C N fs dq)) : FnOk P w K mg base (L2.CX P w) (k + 4) fl dl ["reader", "level", "deep"] (spLevel C N kinds fs 0 dq) := by
  have g3 := ok_level_end R.FL T TC GP R.bP R.FP.kp R.mP
  have g2 : FnOk P w K mg base (L2.CX P w) (k + 2) fl dl ["reader", "level", "deep"] (spLevel C N [.sum] fs (lvOf .sum) dq) := ok_level_step ha (by omega) R.FL T TC L g3 R.bL R.FL.kp R.mL
  have g1 : FnOk P w K mg base (L2.CX P w) (k + 3) fl dl ["reader", "level", "deep"] (spLevel C N [.least, .sum] fs (lvOf .least) dq) := ok_level_step ha (by omega) R.FL T TC L g2 R.bL R.FL.kp R.mL
  exact ok_level_step (kd := .most) ha (by omega) R.FL T TC L g1 R.bL R.FL.kp R.mL
theorem piece_all (T : Txt K mg C N) (TC : TxtC K mg w) (L : Low P w K mg base C N) (R : Rec K mg fl fp fg dl dp dg) : ∀ d : Nat, ∀ dq : Int, dq = 3 - (d : Nat) → FnOk P w K mg base (L2.CX P w) (4 + 6 * d) fp dp ["reader", "deep"] (spPiece C N (fun ws => pieceM ws d) dq)
  | 0, dq, h => by
    have e : dq = 3 := by omega
    subst e
    exact ok_piece0 (k := 3) R.FP T
  | d + 1, dq, h => by
    have G := piece_all T TC L R d (dq + 1) (by omega)
    have GL := level_all (piece_adv d) (by omega) T TC L R G
    have GG := ok_gate (dp := dq) (by omega) R.FG T L G R.bP R.FP.kp R.mP
    exact (ok_pieceS (k := 4 + 6 * d + 4) (by omega) (by omega) R.FP T L GL R.bL R.FL.kp R.mL (GG.mono (by omega)) R.bG R.FG.kp R.mG).mono (by omega)
theorem ok_read {fw fi : Addr} {dw di : FuncData} (F : Fun K "read" "read" s_read f fd) (T : Txt K mg C N) (TC : TxtC K mg w) (L : Low P w K mg base C N) (R : Rec K mg fl fp fg dl dp dg) (M : Mk K C fi) (GI : FnOk P w K mg base CX0 1 fi di ["self", "words"] (spInit C)) (bI : Binds K di ["self", "words"] [])
    (GW : FnOk P w K mg base (L2.CX P w) 2 fw dw ["text"] (spWords N)) (bW : Binds K dw ["text"] []) (kW : PySem.W.keepIn K (.ref fw) = true) (mW : mg "words_of" = some (.ref fw)) : FnOk P w K mg base (L2.CX P w) 27 f fd ["text"] (spRead N) := by
  obtain ⟨fA, dA, GA, bA, mA⟩ := L.A
  have GL : FnOk P w K mg base (L2.CX P w) 26 fl dl ["reader", "level", "deep"] (spLevel C N kinds (fun ws => pieceM ws 3) 0 0) := level_all (piece_adv 3) (by omega) T TC L R (piece_all T TC L R 3 0 (by decide))
  refine F.okX sc_read (fun vs H Q E h => ?_) (fun cdv A outer s H vs Q E hr h => ?_)
  · obtain ⟨z, rfl, _⟩ := h
    rfl
  obtain ⟨z, rfl, hz, k1, k2⟩ := h
  have nd := sc_read.nd
  have hr1 : Room 1 _ := hr.mono (by omega)
  have hr2 : Room 2 _ := hr.mono (by omega)
  refine ⟨_, pss_cons (ps_if (pt_cmpR op_gt (pe_callB call_len_str (by rfl) T.len PySem.boot_len (pa_cons (pv 0) pa_nil)) (pe_gI T.gMS) (nomark _))
      (pss_one (ps_raise (W := fun cls d _ H => E cls d H) rfl (takes_of rfl rfl rfl rfl) (pmk_own PySem.F.excBase_ValueError T.xN T.gN T.kN (raises_own T.bN T.tN) rfl))) pss_nil)
    (pss_cons (ps_set (i := 1) nd rfl (.inl rfl) (pe_call (E := E) GW hr2 rfl mW kW bW .nil (passes_call (W := fun cls d _ H => E cls d H) (takes_of rfl rfl rfl rfl) (fun _ _ _ _ h => h)) (pa_cons (pv 0) pa_nil)))
    (pss_cons (ps_if (pt_cmpR op_gt (pe_callB call_len_seq (by rfl) T.len PySem.boot_len (pa_cons (pv 1) pa_nil)) (pe_gI T.gMW) (nomark _))
      (pss_one (ps_raise (W := fun cls d _ H => E cls d H) rfl (takes_of rfl rfl rfl rfl) (pmk_own PySem.F.excBase_ValueError T.xN T.gN T.kN (raises_own T.bN T.tN) rfl))) pss_nil)
    (pss_cons (ps_set (i := 2) nd rfl (.inl rfl) (pe_make M GI hr2 rfl T.mgC bI .nil pass0 (pa_cons (pv 1) pa_nil)))
    (pss_cons (ps_set (i := 3) nd rfl (.inl rfl) (pe_call (E := E) GL hr rfl R.mL R.FL.kp R.bL .nil (passes_call (W := fun cls d _ H => E cls d H) (takes_of rfl rfl rfl rfl) (fun _ _ _ _ h => h)) (pa_cons (pv 2) (pa_cons pe_int (pa_cons pe_int pa_nil)))))
    (pss_cons (ps_if (pt_cmpR op_ne (pe_meth0 (pv 2) T.cl mA GA hr1 bA .nil pass0) pe_str (nomark _))
      (pss_one (ps_raise (W := fun cls d _ H => E cls d H) rfl (takes_of rfl rfl rfl rfl) (pmk_own PySem.F.excBase_ValueError T.xN T.gN T.kN (raises_own T.bN T.tN) rfl))) pss_nil)
    (pss_one (ps_ret (pv 3)))))))), ?_⟩
  refine ⟨_, rfl, z, rfl, hz, _, _, rfl, rfl, _, rfl, ?_⟩
  unfold readM at k1 k2
  by_cases c1 : 400 < z.length
  · rw [if_pos c1] at k2
    rw [show decide ((400 : Int) < ((z.length : Nat) : Int)) = true from decide_eq_true (by omega)]
    exact iteT (k2 rfl H (Same.refl H))
  rw [if_neg c1] at k1 k2
  rw [show decide ((400 : Int) < ((z.length : Nat) : Int)) = false from decide_eq_false (by omega)]
  refine iteF ⟨_, rfl, z, rfl, by omega, fun ws ew l H1 s1 hl e1 => ?_, fun ew H1 s1 => ?_⟩
  · rw [ew] at k1 k2
    dsimp only at k1 k2
    have B := lexM_ok ew
    refine ⟨_, rfl, l, _, rfl, .inl (SqL.of e1), _, _, rfl, rfl, _, rfl, ?_⟩
    rw [List.length_map]
    by_cases c2 : 40 < ws.length
    · rw [if_pos c2] at k2
      rw [show decide ((40 : Int) < ((ws.length : Nat) : Int)) = true from decide_eq_true (by omega)]
      exact iteT (k2 rfl H1 s1)
    rw [if_neg c2] at k1 k2
    rw [show decide ((40 : Int) < ((ws.length : Nat) : Int)) = false from decide_eq_false (by omega)]
    refine iteF ⟨_, rfl, fun p dx np ndx nex => ?_⟩
    refine ⟨p, dx, l, rfl, upd_same, fun H2 hp2 b2 => ⟨rfl, ?_⟩⟩
    have s2 : Same H1 H2 := fun b o e => b2 b o (by rw [upd_ne (ne_of_none e np), upd_ne (ne_of_none e ndx)]; exact e) (ne_of_none e np)
    have R2 : RdAt C p l ws 0 H2 := ⟨⟨dx, hp2⟩, s2 _ _ e1, by omega⟩
    have W : WsOk ws := ⟨fun w hw => by have := B.1 w hw; omega⟩
    have bs : ∀ {H3 : Hp}, But p H2 H3 → Same H H3 := fun b3 b o e => b3 b o (s2 b o (s1 b o e)) (ne_of_none (s1 b o e) np)
    refine ⟨_, rfl, p, l, ws, 0, rfl, R2, W, ?_⟩
    cases e3 : levelM ws (pieceM ws 3) kinds 0 with
    | none =>
      rw [e3] at k2
      exact fun H3 b3 => k2 rfl H3 (bs b3)
    | some r =>
      obtain ⟨t, j⟩ := r
      rw [e3] at k1 k2
      dsimp only at k1 k2
      intro v H3 b3 R3 tv
      obtain ⟨dx3, hp3⟩ := R3.ob
      refine ⟨_, rfl, p, dx3, _, rfl, hp3, rflds_no _ _ (by decide +kernel) (by decide +kernel), p, l, ws, j, rfl, R3, ?_⟩
      refine ⟨rfl, _, rfl, ?_⟩
      rw [str_dec]
      by_cases c3 : wd ws j = Str.empty
      · rw [if_pos c3] at k1
        rw [show decide (wd ws j = ("" : Str)) = true from decide_eq_true c3]
        exact iteF ⟨_, rfl, k1 t rfl v H3 (bs b3) tv⟩
      · rw [if_neg c3] at k2
        rw [show decide (wd ws j = ("" : Str)) = false from decide_eq_false c3]
        exact iteT (k2 rfl H3 (bs b3))
  · rw [ew] at k2
    exact k2 rfl H1 s1
end
end Aw

namespace Aw
open PySem L2
/-! ### the law's own helpers -/
def spCell (K : PySem.W.Frag) : Sp := fun vs H Q _ => ∃ (a : Addr) (ns : List Int) (k : Nat), vs = [.ref a, .int k] ∧ SqL K H a (ns.map V.int) ∧ ns.length ≤ 63 ∧ ∀ i : Int, Q (.int i) H
def spDice : Sp := fun vs H Q _ => ∃ c : Int, vs = [.int c] ∧ ∀ (d : Addr) (H' : Hp), Same H H' → H d = none → DiceAt H' d → Q (.ref d) H'
def spRoll : Sp := fun vs H Q _ => ∃ (d : Addr) (m : Int), vs = [.ref d, .int m] ∧ DiceAt H d ∧ 0 < m ∧ m < 1000000 ∧ ∀ (r : Int) (H' : Hp), 0 ≤ r → r < m → But d H H' → DiceAt H' d → Q (.int r) H'
def spNames : Sp := fun vs H Q _ => ∃ (c m : Int), vs = [.int c, .int m] ∧ 0 ≤ m ∧ m ≤ 100 ∧ ∀ (l : Addr) (H' : Hp) (nms : List Str), Same H H' → H l = none → H' l = some (.lst (nms.map V.str)) → (nms.length : Int) = m → (∀ s ∈ nms, NameOk s) → Q (.ref l) H'
structure TxtL (K : PySem.W.Frag) (mg : Str → Option Value) : Prop where
  len : mg "len" = none
  int : mg "int" = none
  range : mg "range" = none
  str : mg "str" = none
section
variable {P : Program} {w : World} {K : PySem.W.Frag} {mg : Str → Option Value} {base : Heap} {f : Addr} {fd : FuncData}
theorem ok_cell (F : Fun K "_law_cell_at" "_law_cell_at" s_law_cell_at f fd) (T : TxtL K mg) : FnOk P w K mg base CX0 1 f fd ["_law_script", "_law_k"] (spCell K) := by
  refine F.ok sc_law_cell_at (fun vs H Q E h => ?_) (fun cdv A outer s H vs Q E hr h => ?_)
  · obtain ⟨a, ns, k, rfl, _⟩ := h
    rfl
  obtain ⟨a, ns, k, rfl, hS, h63, q⟩ := h
  refine ⟨_, pss_cons (ps_if (pt_cmpR op_lt (pv 1) (pe_callB call_len_seq (by rfl) T.len PySem.boot_len (pa_cons (pv 0) pa_nil)) (nomark _)) (pss_one (ps_ret (pe_ix ix_list (pv 0) (pv 1) (fun _ _ => rfl)))) pss_nil)
    (pss_one (ps_ret pe_int)), ?_⟩
  refine ⟨_, rfl, _, rfl, a, _, rfl, .inl hS, _, _, rfl, rfl, _, rfl, ?_⟩
  refine ite2 (fun c => ?_) (fun c => ?_)
  · have c' : (k : Int) < (((ns.map V.int).length : Nat) : Int) := of_decide_eq_true c
    rw [List.length_map] at c'
    have hk : k < ns.length := by omega
    refine ⟨_, rfl, _, rfl, a, _, _, _, rfl, rfl, hS, atI_nat (v := .int ns[k]) ?_, q _⟩
    rw [List.getElem?_map, List.getElem?_eq_getElem hk]
    rfl
  · exact q 0
theorem ok_dice (F : Fun K "_law_dice" "_law_dice" s_law_dice f fd) (T : TxtL K mg) : FnOk P w K mg base CX0 1 f fd ["_law_cell"] spDice := by
  refine F.ok sc_law_dice (fun vs H Q E h => ?_) (fun cdv A outer s H vs Q E hr h => ?_)
  · obtain ⟨c, rfl, _⟩ := h
    rfl
  obtain ⟨c, rfl, q⟩ := h
  refine ⟨_, pss_one (ps_ret (pe_lst (pa_cons (pe_op op_mod (pv 0) pe_int) (pa_cons (pe_op op_mul (pe_op op_fdivW (pv 0) pe_int) (pe_callTy call_int1 (by rfl) T.int (by decide +kernel) (pa_cons (pe_cmpR op_ge (pv 0) (pe_op op_pow pe_int pe_int) (nomark _)) pa_nil))) pa_nil)))), ?_⟩
  refine ⟨_, rfl, _, _, rfl, rfl, (by show (0 : Int) < 2147483647; decide), _, rfl, _, _, rfl, rfl, wide_div (b := 40) (by decide) (by decide) (by decide) (by decide), ?_⟩
  refine ⟨_, rfl, _, _, rfl, rfl, ⟨by decide, by decide, by decide⟩, _, _, rfl, rfl, .inr ⟨_, rfl, ?_⟩⟩
  have hb : (0 : Int) ≤ (if decide ((10 : Int) ^ (Int.toNat 18) ≤ c) = true then 1 else 0) ∧ (if decide ((10 : Int) ^ (Int.toNat 18) ≤ c) = true then (1 : Int) else 0) < 2 := by split <;> decide
  refine ⟨_, _, rfl, rfl, .inr ⟨by omega, by omega⟩, (by show 2 ≤ sizeLine; decide), fun d hd => ?_⟩
  refine q d _ (same_new hd _) hd ⟨_, _, upd_same, Int.emod_nonneg _ (by decide), Int.emod_lt_of_pos _ (by decide), ?_⟩
  by_cases hc : (10 : Int) ^ (Int.toNat 18) ≤ c
  · rw [decide_eq_true hc, if_pos rfl, Int.mul_one]
    have hc0 : 0 ≤ c := Int.le_trans (by decide) hc
    exact Int.ediv_nonneg hc0 (by decide)
  · rw [decide_eq_false hc, if_neg Bool.false_ne_true, Int.mul_zero]
    exact Int.le_refl 0
theorem ok_roll (F : Fun K "_law_roll" "_law_roll" s_law_roll f fd) : FnOk P w K mg base CX0 1 f fd ["_law_dice_here", "_law_most"] spRoll := by
  refine F.ok sc_law_roll (fun vs H Q E h => ?_) (fun cdv A outer s H vs Q E hr h => ?_)
  · obtain ⟨d, m, rfl, _⟩ := h
    rfl
  obtain ⟨d, m, rfl, ⟨x, y, hd, hx0, hx1, hy0⟩, hm0, hm1, q⟩ := h
  refine ⟨_, pss_cons (ps_if (pt_cmpR op_gt (pe_ix ix_list (pv 0) pe_int (fun _ _ => rfl)) pe_int (nomark _))
      (pss_cons (ps_set (i := 2) sc_law_roll.nd rfl (.inl rfl) (pe_op op_mod (pe_ix ix_list (pv 0) pe_int (fun _ _ => rfl)) (pv 1)))
      (pss_cons (ps_asg (pe_op op_fdiv (pe_ix ix_list (pv 0) pe_int (fun _ _ => rfl)) (pv 1)) (pg_sub (pv 0) pe_int set_list))
      (pss_one (ps_ret (pv 2))))) pss_nil)
    (pss_cons (ps_asg (pe_op op_mod (pe_op op_add (pe_op op_mul (pe_ix ix_list (pv 0) pe_int (fun _ _ => rfl)) pe_int) pe_int) pe_int) (pg_sub (pv 0) pe_int set_list))
    (pss_one (ps_ret (pe_op op_mod (pe_op op_fdiv (pe_ix ix_list (pv 0) pe_int (fun _ _ => rfl)) pe_int) (pv 1))))), ?_⟩
  have at1 : atI ([.int x, .int y] : List V) 1 = some (.int y) := rfl
  have at0 : atI ([.int x, .int y] : List V) 0 = some (.int x) := rfl
  refine ⟨_, rfl, d, _, _, _, rfl, rfl, SqL.of hd, at1, _, _, rfl, rfl, _, rfl, ?_⟩
  refine ite2 (fun c => ?_) (fun c => ?_)
  · refine ⟨_, rfl, d, _, _, _, rfl, rfl, SqL.of hd, at1, _, rfl, _, _, rfl, rfl, hm0, ?_⟩
    refine ⟨_, rfl, d, _, _, _, rfl, rfl, SqL.of hd, at1, _, rfl, _, _, rfl, rfl, ⟨hm0, by omega⟩, ?_⟩
    refine ⟨_, rfl, d, _, _, 1, rfl, rfl, hd, rfl, ?_⟩
    refine ⟨_, rfl, ?_⟩
    exact q _ _ (Int.emod_nonneg _ (by omega)) (Int.emod_lt_of_pos _ hm0) (But.upd _) ⟨x, y / m, upd_same, hx0, hx1, Int.ediv_nonneg hy0 (by omega)⟩
  · refine ⟨_, rfl, d, _, _, _, rfl, rfl, SqL.of hd, at0, _, _, rfl, rfl, .inl ⟨by omega, by omega⟩, _, _, rfl, rfl, _, _, rfl, rfl, (by show (0 : Int) < 2147483647; decide), ?_⟩
    refine ⟨_, rfl, d, _, _, 0, rfl, rfl, hd, rfl, ?_⟩
    refine ⟨_, rfl, d, _, _, .int ((x * 48271 + 11) % 2147483647), rfl, rfl, SqL.of upd_same, rfl, _, _, rfl, rfl, ⟨by decide, by decide⟩, _, rfl, _, _, rfl, rfl, hm0, ?_⟩
    exact q _ _ (Int.emod_nonneg _ (by omega)) (Int.emod_lt_of_pos _ hm0) (But.upd _) ⟨_, y, upd_same, Int.emod_nonneg _ (by decide), Int.emod_lt_of_pos _ (by decide), hy0⟩
end
end Aw

namespace Aw
open PySem L2
def spTree (K : PySem.W.Frag) (d : Nat) : Sp := fun vs H Q _ => ∃ (dd nl : Addr) (nms : List Str), vs = [.ref dd, .ref nl, .int (d : Nat)] ∧ DiceAt H dd ∧ H nl = some (.lst (nms.map V.str)) ∧ 0 < nms.length ∧ nms.length ≤ 100 ∧
  ∀ v H' t, But dd H H' → DiceAt H' dd → LA (fresh H H') v t → TOk (· ∈ nms) d t → Q v H'
theorem nl_keep {H H' : Hp} {dd nl : Addr} {nms : List Str} (h : DiceAt H dd) (e : H nl = some (.lst (nms.map V.str))) (h0 : 0 < nms.length) (b : But dd H H') : H' nl = some (.lst (nms.map V.str)) := by
  obtain ⟨x, y, ed, _⟩ := h
  refine b _ _ e (ne_of e ed ?_)
  cases nms with
  | nil => exact absurd h0 (Nat.lt_irrefl 0)
  | cons s r => intro z; cases z
theorem at_strs {nms : List Str} {n : Int} (n0 : 0 ≤ n) (n1 : n < (nms.length : Int)) : ∃ s, s ∈ nms ∧ atI (nms.map V.str) n = some (.str s) := by
  have hk : n.toNat < nms.length := by omega
  refine ⟨nms[n.toNat], List.getElem_mem hk, ?_⟩
  have q : atI (nms.map V.str) ((n.toNat : Nat) : Int) = some (.str nms[n.toNat]) := atI_nat (by rw [List.getElem?_map, List.getElem?_eq_getElem hk]; rfl)
  rwa [show ((n.toNat : Nat) : Int) = n by omega] at q
section
variable {P : Program} {w : World} {K : PySem.W.Frag} {mg : Str → Option Value} {base : Heap} {f : Addr} {fd : FuncData}
theorem ok_tree0 {g : Addr} {gd : FuncData} (F : Fun K "_law_tree" "_law_tree" s_law_tree f fd) (T : TxtL K mg) (GR : FnOk P w K mg base CX0 1 g gd ["_law_dice_here", "_law_most"] spRoll) (bR : Binds K gd ["_law_dice_here", "_law_most"] []) (kR : PySem.W.keepIn K (.ref g) = true) (mR : mg "_law_roll" = some (.ref g)) :
    FnOk P w K mg base CX0 2 f fd ["_law_dice_here", "_law_names_here", "_law_deep"] (spTree K 0) := by
  refine F.ok sc_law_tree (fun vs H Q E h => ?_) (fun cdv A outer s H vs Q E hr h => ?_)
  · obtain ⟨dd, nl, nms, rfl, _⟩ := h
    rfl
  obtain ⟨dd, nl, nms, rfl, hD, hn, h0, h100, q⟩ := h
  have nd := sc_law_tree.nd
  refine ⟨_, pss_cons (ps_set (i := 3) nd rfl (.inl rfl) (pe_call GR hr rfl mR kR bR .nil pass0 (pa_cons (pv 0) (pa_cons pe_int pa_nil))))
    (pss_cons (ps_if (PW.pt (pw_or (pt_cmpR op_eq (pv 2) pe_int (nomark _)) (pw_or1 (pt_cmpR op_lt (pv 3) pe_int (nomark _)))))
      (pss_cons (ps_if (pt_cmpR op_eq (pe_call GR hr rfl mR kR bR .nil pass0 (pa_cons (pv 0) (pa_cons pe_int pa_nil))) pe_int (nomark _))
        (pss_one (ps_ret (pe_tup (pa_cons pe_str (pa_cons (pe_call GR hr rfl mR kR bR .nil pass0 (pa_cons (pv 0) (pa_cons pe_int pa_nil))) pa_nil))))) pss_nil)
      (pss_one (ps_ret (pe_tup (pa_cons pe_str (pa_cons (pe_ix ix_list (pv 1) (pe_call GR hr rfl mR kR bR .nil pass0 (pa_cons (pv 0) (pa_cons (pe_callB call_len_seq (by rfl) T.len PySem.boot_len (pa_cons (pv 1) pa_nil)) pa_nil))) (fun _ _ => rfl)) pa_nil)))))) pss_nil)
    (pss_cons ps_never (pss_cons ps_never (pss_cons ps_never (pss_one ps_never))))), ?_⟩
  refine ⟨_, rfl, dd, 10, rfl, hD, by decide, by decide, fun r H1 _ _ b1 D1 => ?_⟩
  refine ⟨_, rfl, rfl, _, rfl, iteT ?_⟩
  have hn1 := nl_keep hD hn h0 b1
  refine ⟨_, rfl, dd, 3, rfl, D1, by decide, by decide, fun r2 H2 _ _ b2 D2 => ?_⟩
  have hn2 := nl_keep D1 hn1 h0 b2
  refine ⟨rfl, _, rfl, ?_⟩
  refine ite2 (fun _ => ?_) (fun _ => ?_)
  · refine ⟨_, rfl, dd, 31, rfl, D2, by decide, by decide, fun n H3 n0 n1 b3 D3 => ?_⟩
    refine ⟨(by show 2 ≤ sizeLine; decide), fun p hp => ?_⟩
    exact q _ _ (.num n) (((b1.trans b2).trans b3).trans (.of_same (same_new hp _))) (D3.mono (same_new hp _)) (.num (fresh_at (free_of D3 ((b1.trans b2).trans b3) hp) upd_same)) (.mkNum ⟨n0, by omega⟩)
  · refine ⟨_, rfl, _, rfl, _, rfl, nl, _, rfl, .inl (SqL.of hn2), dd, _, rfl, D2, ?_, ?_, fun n H3 n0 n1 b3 D3 => ?_⟩
    · rw [List.length_map]; omega
    · rw [List.length_map]; omega
    · rw [List.length_map] at n1
      have hn3 := nl_keep D2 hn2 h0 b3
      obtain ⟨z, hz, ez⟩ := at_strs n0 n1
      refine ⟨nl, _, n, .str z, rfl, rfl, SqL.of hn3, ez, (by show 2 ≤ sizeLine; decide), fun p hp => ?_⟩
      exact q _ _ (.name z) (((b1.trans b2).trans b3).trans (.of_same (same_new hp _))) (D3.mono (same_new hp _)) (.name (fresh_at (free_of D3 ((b1.trans b2).trans b3) hp) upd_same)) (.mkName hz)
theorem kdOf {r : Int} (h0 : 0 ≤ r) (h1 : r < 3) : ∃ k : Kd, atI ([.str "sum", .str "least", .str "most"] : List V) r = some (.str k.nm) := by
  rcases (by omega : r = 0 ∨ r = 1 ∨ r = 2) with e | e | e
  · subst e; exact ⟨.sum, rfl⟩
  · subst e; exact ⟨.least, rfl⟩
  · subst e; exact ⟨.most, rfl⟩
theorem ok_treeS {d k : Nat} (hk : 1 ≤ k) {g : Addr} {gd : FuncData} (F : Fun K "_law_tree" "_law_tree" s_law_tree f fd) (T : TxtL K mg) (GR : FnOk P w K mg base CX0 1 g gd ["_law_dice_here", "_law_most"] spRoll) (bR : Binds K gd ["_law_dice_here", "_law_most"] []) (kR : PySem.W.keepIn K (.ref g) = true) (mR : mg "_law_roll" = some (.ref g))
    (GT : FnOk P w K mg base CX0 k f fd ["_law_dice_here", "_law_names_here", "_law_deep"] (spTree K d)) (bT : Binds K fd ["_law_dice_here", "_law_names_here", "_law_deep"] []) (mT : mg "_law_tree" = some (.ref f)) :
    FnOk P w K mg base CX0 (k + 1) f fd ["_law_dice_here", "_law_names_here", "_law_deep"] (spTree K (d + 1)) := by
  refine F.ok sc_law_tree (fun vs H Q E h => ?_) (fun cdv A outer s H vs Q E hr0 h => ?_)
  · obtain ⟨dd, nl, nms, rfl, _⟩ := h
    rfl
  obtain ⟨dd, nl, nms, rfl, hD, hn, h0, h100, q⟩ := h
  have nd := sc_law_tree.nd
  have hr : Room 1 _ := hr0.mono (by omega)
  have GTe : FnOk P w K mg base CX0 k f fd ["_law_dice_here", "_law_names_here", "_law_deep"] (spTree K d) := GT
  refine ⟨_, pss_cons (ps_set (i := 3) nd rfl (.inl rfl) (pe_call GR hr rfl mR kR bR .nil pass0 (pa_cons (pv 0) (pa_cons pe_int pa_nil))))
    (pss_cons (ps_if (PW.pt (pw_or (pt_cmpR op_eq (pv 2) pe_int (nomark _)) (pw_or1 (pt_cmpR op_lt (pv 3) pe_int (nomark _)))))
      (pss_cons (ps_if (pt_cmpR op_eq (pe_call GR hr rfl mR kR bR .nil pass0 (pa_cons (pv 0) (pa_cons pe_int pa_nil))) pe_int (nomark _))
        (pss_one (ps_ret (pe_tup (pa_cons pe_str (pa_cons (pe_call GR hr rfl mR kR bR .nil pass0 (pa_cons (pv 0) (pa_cons pe_int pa_nil))) pa_nil))))) pss_nil)
      (pss_one (ps_ret (pe_tup (pa_cons pe_str (pa_cons (pe_ix ix_list (pv 1) (pe_call GR hr rfl mR kR bR .nil pass0 (pa_cons (pv 0) (pa_cons (pe_callB call_len_seq (by rfl) T.len PySem.boot_len (pa_cons (pv 1) pa_nil)) pa_nil))) (fun _ _ => rfl)) pa_nil)))))) pss_nil)
    (pss_cons (ps_if (pt_cmpR op_lt (pv 3) pe_int (nomark _))
      (pss_cons (ps_set (i := 4) nd rfl (.inl rfl) (pe_ix ix_list (pv 1) (pe_call GR hr rfl mR kR bR .nil pass0 (pa_cons (pv 0) (pa_cons (pe_callB call_len_seq (by rfl) T.len PySem.boot_len (pa_cons (pv 1) pa_nil)) pa_nil))) (fun _ _ => rfl)))
      (pss_one (ps_ret (pe_tup (pa_cons pe_str (pa_cons (pv 4) (pa_cons (pe_op op_add pe_int (pe_call GR hr rfl mR kR bR .nil pass0 (pa_cons (pv 0) (pa_cons pe_int pa_nil)))) (pa_cons
        (pe_call GTe hr0 rfl mT F.kp bT .nil pass0 (pa_cons (pv 0) (pa_cons (pv 1) (pa_cons (pe_op op_sub (pv 2) pe_int) pa_nil)))) pa_nil)))))))) pss_nil)
    (pss_cons (ps_set (i := 5) nd rfl (.inl rfl) (pe_ix ix_list (pe_lst (pa_cons pe_str (pa_cons pe_str (pa_cons pe_str pa_nil)))) (pe_call GR hr rfl mR kR bR .nil pass0 (pa_cons (pv 0) (pa_cons pe_int pa_nil))) (fun _ _ => rfl)))
    (pss_cons (ps_set (i := 6) nd rfl (.inl rfl) (pe_op op_add pe_int (pe_call GR hr rfl mR kR bR .nil pass0 (pa_cons (pv 0) (pa_cons pe_int pa_nil)))))
    (pss_one (ps_ret (pe_tup (pa_cons (pv 5) (pa_cons
      (pe_lc (own := [("_law_k", 7)]) (g := gName 7) rfl nd (pi_range1 rfl T.range (pa_cons (pv 6) pa_nil)) (blkOk_by (N := ["_law_dice_here", "_law_names_here", "_law_deep", "_law_way", "_law_name", "_law_kind", "_law_many", "_law_k"]) (sc := defScope s_law_tree) (by decide +kernel))
        (fun _ _ _ _ _ => pg_name (i := 7) nd rfl (.inl rfl)) (fun _ _ _ _ _ => pts_nil)
        (fun _ _ _ _ _ => pe_call GTe hr0 rfl mT F.kp bT .nil pass0 (pa_cons (pv 0) (pa_cons (pv 1) (pa_cons (pe_op op_sub (pv 2) pe_int) pa_nil))))) pa_nil))))))))), ?_⟩
  refine ⟨_, rfl, dd, 10, rfl, hD, by decide, by decide, fun r H1 _ _ b1 D1 => ?_⟩
  refine ⟨_, rfl, rfl, _, rfl, ?_⟩
  rw [show decide (V.int ((d + 1 : Nat) : Int) = V.int 0) = false from decide_eq_false (by intro z; have := V.int.inj z; omega)]
  refine iteF ⟨_, rfl, _, _, rfl, rfl, _, rfl, ?_⟩
  refine ite2 (fun _ => ?_) (fun _ => ?_)
  · have hn1 := nl_keep hD hn h0 b1
    refine ⟨_, rfl, dd, 3, rfl, D1, by decide, by decide, fun r2 H2 _ _ b2 D2 => ?_⟩
    have hn2 := nl_keep D1 hn1 h0 b2
    refine ⟨rfl, _, rfl, ?_⟩
    refine ite2 (fun _ => ?_) (fun _ => ?_)
    · refine ⟨_, rfl, dd, 31, rfl, D2, by decide, by decide, fun n H3 n0 n1 b3 D3 => ?_⟩
      refine ⟨(by show 2 ≤ sizeLine; decide), fun p hp => ?_⟩
      exact q _ _ (.num n) (((b1.trans b2).trans b3).trans (.of_same (same_new hp _))) (D3.mono (same_new hp _)) (.num (fresh_at (free_of D3 ((b1.trans b2).trans b3) hp) upd_same)) (.mkNum ⟨n0, by omega⟩)
    · refine ⟨_, rfl, _, rfl, _, rfl, nl, _, rfl, .inl (SqL.of hn2), dd, _, rfl, D2, ?_, ?_, fun n H3 n0 n1 b3 D3 => ?_⟩
      · rw [List.length_map]; omega
      · rw [List.length_map]; omega
      · rw [List.length_map] at n1
        have hn3 := nl_keep D2 hn2 h0 b3
        obtain ⟨z, hz, ez⟩ := at_strs n0 n1
        refine ⟨nl, _, n, .str z, rfl, rfl, SqL.of hn3, ez, (by show 2 ≤ sizeLine; decide), fun p hp => ?_⟩
        exact q _ _ (.name z) (((b1.trans b2).trans b3).trans (.of_same (same_new hp _))) (D3.mono (same_new hp _)) (.name (fresh_at (free_of D3 ((b1.trans b2).trans b3) hp) upd_same)) (.mkName hz)
  · have hn1 := nl_keep hD hn h0 b1
    have hd1 : ((d + 1 : Nat) : Int) - 1 = (d : Nat) := by omega
    refine ⟨_, rfl, _, _, rfl, rfl, _, rfl, ?_⟩
    refine ite2 (fun _ => ?_) (fun _ => ?_)
    · refine ⟨_, rfl, _, rfl, _, rfl, nl, _, rfl, .inl (SqL.of hn1), dd, _, rfl, D1, ?_, ?_, fun n H2 n0 n1 b2 D2 => ?_⟩
      · rw [List.length_map]; omega
      · rw [List.length_map]; omega
      rw [List.length_map] at n1
      have hn2 := nl_keep D1 hn1 h0 b2
      obtain ⟨z, hz, ez⟩ := at_strs n0 n1
      refine ⟨nl, _, n, .str z, rfl, rfl, SqL.of hn2, ez, ?_⟩
      refine ⟨_, rfl, _, rfl, dd, 30, rfl, D2, by decide, by decide, fun b H3 b0 b1' b3 D3 => ?_⟩
      have hn3 := nl_keep D2 hn2 h0 b3
      have bb := (b1.trans b2).trans b3
      refine ⟨_, _, rfl, rfl, _, rfl, _, rfl, _, rfl, _, _, rfl, rfl, dd, nl, nms, (by rw [← hd1]; rfl), D3, hn3, h0, h100, fun v H4 t b4 D4 lv tk => ?_⟩
      refine ⟨(by show 4 ≤ sizeLine; decide), fun p hp => ?_⟩
      have bb4 := bb.trans b4
      have s5 := same_new hp (.tup [.str "gate", .str z, .int (1 + b), v])
      exact q _ _ (.gate z (1 + b) t) (bb4.trans (.of_same s5)) (D4.mono s5) (.gate (fresh_at (free_of D4 bb4 hp) upd_same) (lv.mono (.of_same (fresh_step D3 bb s5)))) ⟨hz, by omega, by omega, tk⟩
    · refine ⟨(by show 3 ≤ sizeLine; decide), fun a hna => ?_⟩
      have s1 := same_new hna (.lst [.str "sum", .str "least", .str "most"])
      refine ⟨_, rfl, dd, 3, rfl, D1.mono s1, by decide, by decide, fun r2 H2 r20 r21 b2 D2 => ?_⟩
      have nad : a ≠ dd := by
        obtain ⟨x, y, e, _⟩ := D1
        exact (ne_of_none e hna).symm
      obtain ⟨kd, ek⟩ := kdOf r20 r21
      refine ⟨a, _, r2, .str kd.nm, rfl, rfl, SqL.of (b2 _ _ upd_same nad), ek, ?_⟩
      have bb2 := (b1.trans (.of_same s1)).trans b2
      refine ⟨_, rfl, dd, 2, rfl, D2, by decide, by decide, fun r3 H3 r30 r31 b3 D3 => ?_⟩
      have bb3 := bb2.trans b3
      refine ⟨_, _, rfl, rfl, ?_⟩
      refine ⟨_, rfl, _, rfl, 2 + r3, rfl, by omega, by omega, fun D hD' => ?_⟩
      have nDd : D ≠ dd := by
        obtain ⟨x, y, e, _⟩ := D3
        exact (ne_of_none e hD').symm
      have hDH : H D = none := free_of D3 bb3 hD'
      refine lc_range (lo := 0) (n := (2 + r3).toNat) (fun i H' => ∃ vs ts, But dd H H' ∧ DiceAt H' dd ∧ H' D = some (.lst vs) ∧ LAs (hide D (fresh H H')) vs ts ∧ ts.length = i ∧ ∀ t ∈ ts, TOk (· ∈ nms) d t) ?_ ?_ ?_
      · exact ⟨[], [], bb3.trans (.of_same (same_new hD' _)), D3.mono (same_new hD' _), upd_same, .nil, rfl, fun t ht => by cases ht⟩
      · rintro i H4 hi ⟨vs, ts, b4, D4, e4, l4, hl, tk⟩
        refine ⟨rfl, ?_⟩
        refine ⟨_, rfl, _, rfl, _, rfl, _, _, rfl, rfl, dd, nl, nms, (by rw [← hd1]; rfl), D4, nl_keep hD hn h0 b4, h0, h100, fun v H5 t b5 D5 lv tk5 => ?_⟩
        have hlen := l4.length
        have e5 := b5 _ _ e4 nDd
        refine ⟨vs, e5, small1000 (by omega), vs ++ [v], ts ++ [t], ?_, ?_, upd_same, ?_, ?_, ?_⟩
        · intro b o hb hbd
          rw [upd_ne (ne_of_none hb hDH)]
          exact b5 b o (b4 b o hb hbd) hbd
        · obtain ⟨x, y, e, z⟩ := D5
          exact ⟨x, y, by rw [upd_ne nDd.symm]; exact e, z⟩
        · refine LAs.snoc (lv.mono (.of_same fun b o hb => ?_)) (l4.mono (.of_same fun b o hb => ?_))
          · obtain ⟨z1, z2⟩ := fresh_inv hb
            have nb : b ≠ D := by intro z; subst z; rw [e4] at z1; cases z1
            unfold hide
            rw [if_neg nb]
            exact fresh_at (free_of D4 b4 z1) (by rw [upd_ne nb]; exact z2)
          · unfold hide at hb ⊢
            by_cases nb : b = D
            · rw [if_pos nb] at hb; cases hb
            · rw [if_neg nb] at hb ⊢
              obtain ⟨z1, z2⟩ := fresh_inv hb
              have nbd : b ≠ dd := by
                intro z; subst z
                obtain ⟨x, y, e, _⟩ := hD
                rw [z1] at e; cases e
              exact fresh_at z1 (by rw [upd_ne nb]; exact b5 b o z2 nbd)
        · rw [List.length_append, List.length_singleton, hl]
        · intro t' ht'
          rcases List.mem_append.mp ht' with z | z
          · exact tk t' z
          · rw [List.mem_singleton.mp z]; exact tk5
      · rintro H4 ⟨vs, ts, b4, D4, e4, l4, hl, tk⟩
        refine ⟨(by show 2 ≤ sizeLine; decide), fun p hp => ?_⟩
        have s5 := same_new hp (.tup [.str kd.nm, .ref D])
        refine q _ _ (.join kd ts) (b4.trans (.of_same s5)) (D4.mono s5) (.join (fresh_at (free_of D4 b4 hp) upd_same) (fresh_at hDH (s5 _ _ e4)) (by omega) (l4.mono (.of_same fun b o hb => ?_))) ⟨by omega, by omega, tk⟩
        unfold hide at hb
        by_cases nb : b = D
        · rw [if_pos nb] at hb; cases hb
        · rw [if_neg nb] at hb
          obtain ⟨z1, z2⟩ := fresh_inv hb
          exact fresh_at z1 (s5 b o z2)
end
end Aw

namespace Aw
open PySem L2
section
variable {P : Program} {w : World} {K : PySem.W.Frag} {mg : Str → Option Value} {base : Heap} {f : Addr} {fd : FuncData}
theorem let_at {n : Int} (h0 : 0 ≤ n) (h1 : n < 26) : ∃ c, c ∈ LET ∧ atI (("abcdefghijklmnopqrstuvwxyz" : Str)).cps.toList n = some c := by
  have hk : n.toNat < LET.length := by
    have e : LET.length = 26 := by decide +kernel
    omega
  refine ⟨LET[n.toNat], List.getElem_mem hk, ?_⟩
  have q : atI LET ((n.toNat : Nat) : Int) = some LET[n.toNat] := atI_nat (List.getElem?_eq_getElem hk)
  rwa [show ((n.toNat : Nat) : Int) = n by omega] at q
theorem nameOk_of {z : Str} (h1 : 1 ≤ z.length) (h6 : z.length ≤ 6) (h : ∀ c ∈ z.cps.toList, c ∈ LET) : NameOk z := by
  unfold NameOk nameM
  rw [decide_eq_true (show 1 ≤ z.length ∧ z.length ≤ 6 from ⟨h1, h6⟩), Bool.true_and, List.all_eq_true]
  exact fun c hc => decide_eq_true (h c hc)
theorem mem_app1 {z : Str} {c : Nat} (h : ∀ x ∈ z.cps.toList, x ∈ LET) (hc : c ∈ LET) : ∀ x ∈ (z ++ sg1 c).cps.toList, x ∈ LET := by
  intro x hx
  have e : (z ++ sg1 c).cps.toList = z.cps.toList ++ [c] := by
    show (z.cps ++ #[c]).toList = _
    rw [Array.toList_append]
  rw [e] at hx
  rcases List.mem_append.mp hx with q | q
  · exact h x q
  · rw [List.mem_singleton.mp q]; exact hc
theorem ok_names (F : Fun K "_law_names" "_law_names" s_law_names f fd) (T : TxtL K mg) : FnOk P w K mg base CX0 1 f fd ["_law_cell", "_law_many"] spNames := by
  refine F.ok sc_law_names (fun vs H Q E h => ?_) (fun cdv A outer s H vs Q E hr h => ?_)
  · obtain ⟨c, m, rfl, _⟩ := h
    rfl
  obtain ⟨c, m, rfl, m0, m1, q⟩ := h
  have nd := sc_law_names.nd
  refine ⟨_, pss_cons (ps_set (i := 2) nd rfl (.inl rfl) pe_str)
    (pss_cons (ps_set (i := 3) nd rfl (.inl rfl) (pe_op op_add pe_int (pe_op op_mod (pv 0) pe_int)))
    (pss_cons (ps_set (i := 4) nd rfl (.inl rfl) (pe_op op_mod (pe_op op_fdiv (pv 0) pe_int) (pv 3)))
    (pss_cons (ps_set (i := 5) nd rfl (.inl rfl) (pe_lst pa_nil))
    (pss_cons (ps_for PassesOwn.never rfl (pi_range1 rfl T.range (pa_cons (pv 1) pa_nil)) (pg_name (i := 6) nd rfl (.inl rfl))
      (pss_cons (ps_set (i := 7) nd rfl (.inl rfl) pe_str)
      (pss_cons (ps_for PassesOwn.never rfl (pi_range1 rfl T.range (pa_cons (pv 3) pa_nil)) (pg_name (i := 8) nd rfl (.inl rfl))
        (pss_cons (ps_set (i := 9) nd rfl (.inl rfl) (pe_op op_add (pe_op op_mod (pe_op op_fdiv (pv 0) pe_int) pe_int) (pe_op op_mul pe_int (pv 8))))
        (pss_cons (ps_if (pt_cmpR op_eq (pv 8) (pv 4) (nomark _)) (pss_one (ps_set (i := 9) nd rfl (.inl rfl) (pe_op op_add (pv 9) (pv 6)))) pss_nil)
        (pss_one (ps_set (i := 7) nd rfl (.inl rfl) (pe_op op_add_str (pv 7) (pe_ix ix_str (pv 2) (pe_op op_mod (pv 9) pe_int) (fun _ _ => rfl))))))))
      (pss_one (ps_expr (pe_bm PySem.F.plainAttrs_list PySem.F.slot_list_append PySem.F.type_list_append mt_append (pv 5) (pa_cons (pv 7) pa_nil)))))))
    (pss_one (ps_ret (pv 5))))))), ?_⟩
  have hs0 : 0 ≤ c % 6 := Int.emod_nonneg _ (by decide)
  have hs1 : c % 6 < 6 := Int.emod_lt_of_pos _ (by decide)
  refine ⟨_, rfl, _, _, rfl, rfl, (by show (0 : Int) < 6; decide), _, _, rfl, rfl, ?_⟩
  refine ⟨_, rfl, _, _, rfl, rfl, ⟨by decide, by decide⟩, _, rfl, _, _, rfl, rfl, (by show 0 < 1 + c % 6; omega), ?_⟩
  refine ⟨(by show 0 ≤ sizeLine; decide), fun l hl => ?_⟩
  refine ⟨_, rfl, m, rfl, by omega, by omega, ?_⟩
  refine for_range (lo := 0) (n := m.toNat) (fun i σ H' => ∃ (nms : List Str) (v6 v7 v8 v9 : Option V), σ = [some (.int c), some (.int m), some (.str "abcdefghijklmnopqrstuvwxyz"), some (.int (1 + c % 6)), some (.int (c / 6 % (1 + c % 6))), some (.ref l), v6, v7, v8, v9] ∧
    Same H H' ∧ H' l = some (.lst (nms.map V.str)) ∧ nms.length = i ∧ ∀ s ∈ nms, NameOk s) ⟨[], none, none, none, none, rfl, same_new hl _, upd_same, rfl, fun s hs => by cases hs⟩ ?_ ?_
  · rintro i σ H1 hi ⟨nms, v6, v7, v8, v9, rfl, s1, e1, hlen, hok⟩
    refine ⟨_, rfl, 1 + c % 6, rfl, by omega, by omega, ?_⟩
    refine for_range (lo := 0) (n := (1 + c % 6).toNat) (fun j σ H' => ∃ (z : Str) (v8 v9 : Option V), σ = [some (.int c), some (.int m), some (.str "abcdefghijklmnopqrstuvwxyz"), some (.int (1 + c % 6)), some (.int (c / 6 % (1 + c % 6))), some (.ref l), some (.int (0 + (i : Int))), some (.str z), v8, v9] ∧
      H' = H1 ∧ z.length = j ∧ ∀ x ∈ z.cps.toList, x ∈ LET) ⟨Str.empty, _, _, rfl, rfl, rfl, fun x hx => by cases hx⟩ ?_ ?_
    · rintro j σ H2 hj ⟨z, v8, v9, rfl, rfl, hz, hl'⟩
      refine ⟨_, rfl, _, _, rfl, rfl, ⟨by decide, by decide⟩, _, _, rfl, rfl, (by show (0 : Int) < 26; decide), _, rfl, _, _, rfl, rfl, .inl ⟨by decide, by decide⟩, _, _, rfl, rfl, ?_⟩
      refine ⟨_, rfl, _, rfl, rfl, _, rfl, ?_⟩
      have hz6 : (j : Int) < 6 := by omega
      refine ite2 (fun _ => ?_) (fun _ => ?_)
      · refine ⟨_, rfl, _, rfl, _, _, rfl, rfl, ?_⟩
        obtain ⟨ch, hc, ec⟩ := let_at (n := (c / 36 % 26 + 5 * (0 + (j : Int)) + (0 + (i : Int))) % 26) (Int.emod_nonneg _ (by decide)) (Int.emod_lt_of_pos _ (by decide))
        refine ⟨_, rfl, _, rfl, _, rfl, _, _, rfl, rfl, (by show (0 : Int) < 26; decide), _, _, ch, rfl, rfl, (by decide +kernel), ec, z, sg1 ch, rfl, rfl, big (by rw [len_sg1]; omega), ?_⟩
        exact ⟨z ++ sg1 ch, _, _, rfl, rfl, by rw [len_app, len_sg1, hz], mem_app1 hl' hc⟩
      · obtain ⟨ch, hc, ec⟩ := let_at (n := (c / 36 % 26 + 5 * (0 + (j : Int))) % 26) (Int.emod_nonneg _ (by decide)) (Int.emod_lt_of_pos _ (by decide))
        refine ⟨_, rfl, _, rfl, _, rfl, _, _, rfl, rfl, (by show (0 : Int) < 26; decide), _, _, ch, rfl, rfl, (by decide +kernel), ec, z, sg1 ch, rfl, rfl, big (by rw [len_sg1]; omega), ?_⟩
        exact ⟨z ++ sg1 ch, _, _, rfl, rfl, by rw [len_app, len_sg1, hz], mem_app1 hl' hc⟩
    · rintro σ H2 ⟨z, v8, v9, rfl, rfl, hz, hl'⟩
      refine ⟨_, rfl, .inl ⟨rfl, _, SqL.of e1⟩, _, rfl, l, _, _, rfl, rfl, e1, small1000 (by rw [List.length_map]; omega), ?_⟩
      refine ⟨nms ++ [z], _, _, _, _, rfl, same_upd s1 hl _, (by rw [upd_same, List.map_append]; rfl), by rw [List.length_append, List.length_singleton, hlen], fun s hs => ?_⟩
      rcases List.mem_append.mp hs with q | q
      · exact hok s q
      · rw [List.mem_singleton.mp q]
        exact nameOk_of (by omega) (by omega) hl'
  · rintro σ H1 ⟨nms, v6, v7, v8, v9, rfl, s1, e1, hlen, hok⟩
    exact ⟨_, rfl, q l H1 nms s1 hl e1 (by omega) hok⟩
end
end Aw

namespace Aw
open PySem L2
def spWritten (d : Nat) : Sp := fun vs H Q _ => ∃ (v : V) (t : T) (firm : Int), vs = [v, .int firm] ∧ LA H v t ∧ TOk NameOk d t ∧ ∀ H', Same H H' → Q (.str (wr firm t)) H'
theorem nameOk_len {s : Str} (h : NameOk s) : s.length ≤ 6 := by
  unfold NameOk nameM at h
  have := (Bool.and_eq_true_iff.mp h).1
  exact (of_decide_eq_true this).2
theorem LB_le : ∀ {d : Nat}, d ≤ 2 → LB d ≤ 200
  | 0, _ => by decide
  | 1, _ => by decide
  | 2, _ => by decide
  | _ + 3, h => by omega
def rankKvs : List (Key × V) := [(Sum.inr "most", .int 1), (Sum.inr "least", .int 2), (Sum.inr "sum", .int 3)]
def sepKvs : List (Key × V) := [(Sum.inr "most", .str " | "), (Sum.inr "least", .str " & "), (Sum.inr "sum", .str " + ")]
theorem rank_get (k : Kd) : valV (mergeK [] rankKvs) (Sum.inr k.nm) = some (.int k.rank) := by cases k <;> decide +kernel
theorem sep_get (k : Kd) : valV (mergeK [] sepKvs) (Sum.inr k.nm) = some (.str k.sep) := by cases k <;> decide +kernel
theorem kd_num (k : Kd) : decide (V.str k.nm = V.str "number") = false := by cases k <;> decide +kernel
theorem kd_name (k : Kd) : decide (V.str k.nm = V.str "name") = false := by cases k <;> decide +kernel
theorem kd_gate (k : Kd) : decide (V.str k.nm = V.str "gate") = false := by cases k <;> decide +kernel
theorem cut1 {v : V} {r : List V} : cutV (v :: r) (some 1) none = r := by
  unfold cutV
  rw [HT.sIx_none, show HT.sIx (v :: r).length 0 (some 1) = 1 by rw [show (1 : Int) = ((1 : Nat) : Int) from rfl, HT.sIx_nat, List.length_cons]; omega]
  show (r.take ((v :: r).length - 1)) = r
  rw [List.length_cons, Nat.add_sub_cancel, List.take_length]
section
variable {P : Program} {w : World} {K : PySem.W.Frag} {mg : Str → Option Value} {base : Heap} {f : Addr} {fd : FuncData}
theorem ok_written0 (F : Fun K "_law_written" "_law_written" s_law_written f fd) (T : TxtL K mg) : FnOk P w K mg base CX0 1 f fd ["_law_tree_here", "_law_firm"] (spWritten 0) := by
  refine F.ok sc_law_written (fun vs H Q E h => ?_) (fun cdv A outer s H vs Q E hr h => ?_)
  · obtain ⟨v, t, firm, rfl, _⟩ := h
    rfl
  obtain ⟨v, t, firm, rfl, lv, tk, q⟩ := h
  have nd := sc_law_written.nd
  refine ⟨_, pss_cons (ps_if (pt_cmpR op_eq (pe_ix ix_tup (pv 0) pe_int (fun _ _ => rfl)) pe_str (nomark _)) (pss_one (ps_ret (pe_callTy call_str_int (by rfl) T.str (by decide +kernel) (pa_cons (pe_ix ix_tup (pv 0) pe_int (fun _ _ => rfl)) pa_nil)))) pss_nil)
    (pss_cons (ps_if (pt_cmpR op_eq (pe_ix ix_tup (pv 0) pe_int (fun _ _ => rfl)) pe_str (nomark _)) (pss_one (ps_ret (pe_ix ix_tup (pv 0) pe_int (fun _ _ => rfl)))) pss_nil)
    (pss_cons ps_never (pss_cons ps_never (pss_cons ps_never (pss_cons ps_never (pss_cons ps_never (pss_cons ps_never (pss_one ps_never)))))))), ?_⟩
  cases lv with
  | @num a n e =>
    have tk := tk.num
    exact ⟨_, rfl, a, _, _, _, rfl, rfl, SqT.of e, rfl, rfl, _, rfl, iteT ⟨_, rfl, a, _, _, _, rfl, rfl, SqT.of e, rfl, n, rfl, small_tx tk.1 (by omega), q H (Same.refl H)⟩⟩
  | @name a z e =>
    refine ⟨_, rfl, a, _, _, _, rfl, rfl, SqT.of e, rfl, rfl, _, rfl, ?_⟩
    refine iteF ⟨_, rfl, a, _, _, _, rfl, rfl, SqT.of e, rfl, rfl, _, rfl, ?_⟩
    exact iteT ⟨_, rfl, a, _, _, _, rfl, rfl, SqT.of e, rfl, q H (Same.refl H)⟩
  | gate e _ => exact tk.elim
  | join e _ _ _ => exact tk.elim
theorem ok_writtenS {d k : Nat} (hd : d + 1 ≤ 2) (hk : 1 ≤ k) (F : Fun K "_law_written" "_law_written" s_law_written f fd) (T : TxtL K mg) (G : FnOk P w K mg base CX0 k f fd ["_law_tree_here", "_law_firm"] (spWritten d)) (b : Binds K fd ["_law_tree_here", "_law_firm"] []) (m : mg "_law_written" = some (.ref f)) :
    FnOk P w K mg base CX0 (k + 1) f fd ["_law_tree_here", "_law_firm"] (spWritten (d + 1)) := by
  refine F.ok sc_law_written (fun vs H Q E h => ?_) (fun cdv A outer s H vs Q E hr h => ?_)
  · obtain ⟨v, t, firm, rfl, _⟩ := h
    rfl
  obtain ⟨v, t, firm, rfl, lv, tk, q⟩ := h
  have nd := sc_law_written.nd
  have hu := hu_of hr
  refine ⟨_, pss_cons (ps_if (pt_cmpR op_eq (pe_ix ix_tup (pv 0) pe_int (fun _ _ => rfl)) pe_str (nomark _)) (pss_one (ps_ret (pe_callTy call_str_int (by rfl) T.str (by decide +kernel) (pa_cons (pe_ix ix_tup (pv 0) pe_int (fun _ _ => rfl)) pa_nil)))) pss_nil)
    (pss_cons (ps_if (pt_cmpR op_eq (pe_ix ix_tup (pv 0) pe_int (fun _ _ => rfl)) pe_str (nomark _)) (pss_one (ps_ret (pe_ix ix_tup (pv 0) pe_int (fun _ _ => rfl)))) pss_nil)
    (pss_cons (ps_if (pt_cmpR op_eq (pe_ix ix_tup (pv 0) pe_int (fun _ _ => rfl)) pe_str (nomark _)) (pss_one (ps_ret
        (pe_op op_add_str (pe_op op_add_str (pe_op op_add_str (pe_op op_add_str (pe_op op_add_str pe_str (pe_ix ix_tup (pv 0) pe_int (fun _ _ => rfl))) pe_str) (pe_callTy call_str_int (by rfl) T.str (by decide +kernel) (pa_cons (pe_ix ix_tup (pv 0) pe_int (fun _ _ => rfl)) pa_nil))) pe_str)
          (pe_call G hr rfl m F.kp b .nil pass0 (pa_cons (pe_ix ix_tup (pv 0) pe_int (fun _ _ => rfl)) (pa_cons pe_int pa_nil)))))) pss_nil)
    (pss_cons (ps_set (i := 2) nd rfl (.inl rfl) (pe_dget hu (pe_disp (pps_cons pe_str pe_int (pps_cons pe_str pe_int (pps_cons pe_str pe_int pps_nil))) (by rfl) (by rfl) (fun z => by cases z) (by decide)) (pe_ix ix_tup (pv 0) pe_int (fun _ _ => rfl)) (fun _ _ => rfl)))
    (pss_cons (ps_set (i := 3) nd rfl (.inl rfl) (pe_dget hu (pe_disp (pps_cons pe_str pe_str (pps_cons pe_str pe_str (pps_cons pe_str pe_str pps_nil))) (by rfl) (by rfl) (fun z => by cases z) (by decide)) (pe_ix ix_tup (pv 0) pe_int (fun _ _ => rfl)) (fun _ _ => rfl)))
    (pss_cons (ps_set (i := 4) nd rfl (.inl rfl) (pe_call G hr rfl m F.kp b .nil pass0 (pa_cons (pe_ix ix_list (pe_ix ix_tup (pv 0) pe_int (fun _ _ => rfl)) pe_int (fun _ _ => rfl)) (pa_cons (pe_op op_add (pv 2) pe_int) pa_nil))))
    (pss_cons (ps_for PassesOwn.never rfl (pi_list (pe_slice sl_list (pe_ix ix_tup (pv 0) pe_int (fun _ _ => rfl)) (po_some pe_int) po_none)) (pg_name (i := 5) nd rfl (.inl rfl))
      (pss_one (ps_set (i := 4) nd rfl (.inl rfl) (pe_op op_add_str (pe_op op_add_str (pv 4) (pv 3)) (pe_call G hr rfl m F.kp b .nil pass0 (pa_cons (pv 5) (pa_cons (pe_op op_add (pv 2) pe_int) pa_nil)))))))
    (pss_cons (ps_if (pt_cmpR op_lt (pv 2) (pv 1) (nomark _)) (pss_one (ps_ret (pe_op op_add_str (pe_op op_add_str pe_str (pv 4)) pe_str))) pss_nil)
    (pss_one (ps_ret (pv 4)))))))))), ?_⟩
  cases lv with
  | @num a n e =>
    have tk := tk.num
    exact ⟨_, rfl, a, _, _, _, rfl, rfl, SqT.of e, rfl, rfl, _, rfl, iteT ⟨_, rfl, a, _, _, _, rfl, rfl, SqT.of e, rfl, n, rfl, small_tx tk.1 (by omega), q H (Same.refl H)⟩⟩
  | @name a z e =>
    refine ⟨_, rfl, a, _, _, _, rfl, rfl, SqT.of e, rfl, rfl, _, rfl, ?_⟩
    refine iteF ⟨_, rfl, a, _, _, _, rfl, rfl, SqT.of e, rfl, rfl, _, rfl, ?_⟩
    exact iteT ⟨_, rfl, a, _, _, _, rfl, rfl, SqT.of e, rfl, q H (Same.refl H)⟩
  | @gate a z bd v1 t1 e lv1 =>
    obtain ⟨hz, h1, h30, tk1⟩ := tk
    have l1 := nameOk_len hz
    have l2 := tx_len (n := bd) ⟨by omega, h30⟩
    have l3 := wr_len (fun s h => nameOk_len h) d 4 tk1
    have lb := LB_le (d := d) (by omega)
    refine ⟨_, rfl, a, _, _, _, rfl, rfl, SqT.of e, rfl, rfl, _, rfl, ?_⟩
    refine iteF ⟨_, rfl, a, _, _, _, rfl, rfl, SqT.of e, rfl, rfl, _, rfl, ?_⟩
    refine iteF ⟨_, rfl, a, _, _, _, rfl, rfl, SqT.of e, rfl, rfl, _, rfl, ?_⟩
    refine iteT ⟨_, rfl, a, _, _, _, rfl, rfl, SqT.of e, rfl, _, z, rfl, rfl, ?_, _, _, rfl, rfl, ?_, ?_⟩
    · exact big (by show 1 + z.length ≤ _; omega)
    · rw [len_app]; exact big (by show 1 + z.length + 1 ≤ _; omega)
    refine ⟨_, rfl, a, _, _, _, rfl, rfl, SqT.of e, rfl, bd, rfl, small_tx (by omega) (by omega), _, tx bd, rfl, rfl, ?_, _, _, rfl, rfl, ?_, ?_⟩
    · rw [len_app, len_app]; exact big (by show 1 + z.length + 1 + (tx bd).length ≤ _; omega)
    · rw [len_app, len_app, len_app]; exact big (by show 1 + z.length + 1 + (tx bd).length + 2 ≤ _; omega)
    refine ⟨_, rfl, a, _, _, _, rfl, rfl, SqT.of e, rfl, v1, t1, 4, rfl, lv1, tk1, fun H' s' => ?_⟩
    refine ⟨_, _, rfl, rfl, ?_, ?_⟩
    · rw [len_app, len_app, len_app, len_app]; exact big (by show 1 + z.length + 1 + (tx bd).length + 2 + (wr 4 t1).length ≤ _; omega)
    · have r := q H' s'
      unfold wr at r
      exact r
  | @join a p kd vs ts e e2 h0 lvs =>
    obtain ⟨h2, h3, tks⟩ := tk
    have lb := LB_le (d := d) (by omega)
    refine ⟨_, rfl, a, _, _, _, rfl, rfl, SqT.of e, rfl, rfl, _, rfl, ?_⟩
    rw [kd_num]
    refine iteF ⟨_, rfl, a, _, _, _, rfl, rfl, SqT.of e, rfl, rfl, _, rfl, ?_⟩
    rw [kd_name]
    refine iteF ⟨_, rfl, a, _, _, _, rfl, rfl, SqT.of e, rfl, rfl, _, rfl, ?_⟩
    rw [kd_gate]
    refine iteF (fun p1 hp1 => ?_)
    have s1 : Same H (upd (upd H p1 (.dK [])) p1 (.dK (mergeK [] rankKvs))) := same_upd (same_new hp1 _) hp1 _
    refine ⟨upd_same, rankKvs, rfl, by decide, ?_⟩
    refine ⟨_, rfl, a, _, _, _, rfl, rfl, SqT.of (s1 _ _ e), rfl, p1, .int kd.rank, rfl, ?_, ?_⟩
    · rw [← rank_get kd]; exact DGet.k (k := Sum.inr kd.nm) upd_same
    intro p2 hp2
    generalize eH1 : upd (upd H p1 (.dK [])) p1 (.dK (mergeK [] rankKvs)) = H1 at s1 hp2 ⊢
    have s2 : Same H1 (upd (upd H1 p2 (.dK [])) p2 (.dK (mergeK [] sepKvs))) := same_upd (same_new hp2 _) hp2 _
    refine ⟨upd_same, sepKvs, rfl, by decide, ?_⟩
    refine ⟨_, rfl, a, _, _, _, rfl, rfl, SqT.of (s2 _ _ (s1 _ _ e)), rfl, p2, .str kd.sep, rfl, ?_, ?_⟩
    · rw [← sep_get kd]; exact DGet.k (k := Sum.inr kd.nm) upd_same
    generalize eH2 : upd (upd H1 p2 (.dK [])) p2 (.dK (mergeK [] sepKvs)) = H2 at s2 ⊢
    have s02 := s1.trans s2
    cases lvs with
    | nil => exact absurd h0 (Nat.lt_irrefl 0)
    | @cons v0 t0 vr tr lv0 lvr =>
      have hn : ∀ t ∈ t0 :: tr, (wr (kd.rank + 1) t).length ≤ LB d := fun t ht => wr_len (fun s h => nameOk_len h) d _ (tks t ht)
      have bnd : ∀ i, (wrs kd.sep (kd.rank + 1) (t0 :: tr.take i)).length ≤ 1000 := fun i => by
        have q1 := wrs_len (f := kd.rank + 1) (B := LB d) (sep_len kd) (ts := t0 :: tr.take i) (by intro z; cases z) fun t ht => hn t (by
          rcases List.mem_cons.mp ht with z | z
          · exact z ▸ List.mem_cons_self
          · exact List.mem_cons_of_mem _ (List.mem_of_mem_take z))
        have q2 : (t0 :: tr.take i).length ≤ 3 := by
          rw [List.length_cons, List.length_take]
          rw [List.length_cons] at h3
          omega
        have q3 : (t0 :: tr.take i).length * (LB d + 3) ≤ 3 * (LB d + 3) := Nat.mul_le_mul_right _ q2
        omega
      refine ⟨_, rfl, a, _, _, _, rfl, rfl, SqT.of (s02 _ _ e), rfl, p, _, _, v0, rfl, rfl, SqL.of (s02 _ _ e2), atI_nat (j := 0) rfl, ?_⟩
      refine ⟨_, rfl, _, _, rfl, rfl, v0, t0, kd.rank + 1, rfl, lv0.mono (.of_same s02), tks t0 List.mem_cons_self, fun H3 s3 => ?_⟩
      have s03 := s02.trans s3
      refine ⟨_, rfl, a, _, _, _, rfl, rfl, SqT.of (s03 _ _ e), rfl, 1, rfl, p, _, rfl, SqL.of (s03 _ _ e2), fun p3 hp3 => ?_⟩
      have s04 := s03.trans (same_new hp3 (.lst (cutV (v0 :: vr) (some 1) none)))
      rw [cut1] at s04 ⊢
      refine ⟨p3, rfl, ⟨_, SqL.of upd_same⟩, for_list (K := K) (a := p3) (xs := vr) (fun i σ H' => ∃ v5 : Option V, σ = [some (.ref a), some (.int firm), some (.int kd.rank), some (.str kd.sep), some (.str (wrs kd.sep (kd.rank + 1) (t0 :: tr.take i))), v5] ∧ Same (upd H3 p3 (.lst vr)) H')
        ⟨none, by rw [List.take_zero, wrs_one]; rfl, Same.refl _⟩ (fun i σ H' _ ⟨_, _, s5⟩ => s5.seq (SqL.of upd_same)) ?_ ?_⟩
      · rintro i x σ H4 hi ⟨v5, rfl, s5⟩
        obtain ⟨t5, ht5, lv5⟩ := lvr.get hi
        have b1 := bnd i
        have b3 := sep_len kd
        have b4 := hn t5 (List.mem_cons_of_mem _ (List.mem_of_getElem? ht5))
        refine ⟨_, rfl, _, rfl, _, _, rfl, rfl, big (by omega), ?_⟩
        refine ⟨_, rfl, _, rfl, _, _, rfl, rfl, x, t5, kd.rank + 1, rfl, lv5.mono (.of_same (s04.trans s5)), tks t5 (List.mem_cons_of_mem _ (List.mem_of_getElem? ht5)), fun H5 s6 => ?_⟩
        refine ⟨_, _, rfl, rfl, ?_, some x, ?_, s5.trans s6⟩
        · rw [len_app]; exact big (by omega)
        · rw [take_more ht5, ← List.cons_append, wrs_snoc _ _ _ (by intro z; cases z)]
          rfl
      · rintro σ H4 ⟨v5, rfl, s5⟩
        have b1 := bnd vr.length
        rw [lvr.length, List.take_length] at b1 ⊢
        have r := q H4 (s04.trans s5)
        unfold wr at r
        refine ⟨_, rfl, _, rfl, _, _, rfl, rfl, _, rfl, ?_⟩
        by_cases c : kd.rank < firm
        · rw [if_pos c] at r
          rw [show decide (kd.rank < firm) = true from decide_eq_true c]
          refine iteT ⟨_, rfl, _, _, rfl, rfl, ?_, _, _, rfl, rfl, ?_, r⟩
          · exact big (by show 1 + (wrs kd.sep (kd.rank + 1) (t0 :: tr)).length ≤ _; omega)
          · rw [len_app]; exact big (by show 1 + (wrs kd.sep (kd.rank + 1) (t0 :: tr)).length + 1 ≤ _; omega)
        · rw [if_neg c] at r
          rw [show decide (kd.rank < firm) = false from decide_eq_false c]
          exact iteF ⟨_, rfl, r⟩
end
end Aw

namespace Aw
open PySem L2
/-- what answer_of and the like ask of what they are given to call -/
structure AskIs (S : Type) where
  o : S → Str → Int
  n : S → Str → S
  D : Str → Prop
  J : Nat → S → Prop
  R : S → Hp → Prop
  M : Addr → Prop
  ok : AskOk o n D J
  mok : ∀ st H, R st H → MOk M H
  fp : Addr → Prop
  tr : ∀ st H b, R st H → fp b → ∃ u, H b = some u
  up : ∀ st H H', R st H → (∀ b, fp b → H' b = H b) → R st H'
theorem AskIs.same {S : Type} (a : AskIs S) {st : S} {H H' : Hp} (h : a.R st H) (s : Same H H') : a.R st H' := a.up st H H' h fun b hb => by
  obtain ⟨u, e⟩ := a.tr st H b h hb
  rw [e, s b u e]
/-- what is new, or stood new, may change -/
theorem AskIs.put {S : Type} (a : AskIs S) {st st0 : S} {H H0 : Hp} (h : a.R st H) (h0 : a.R st0 H0) {D : Addr} (hD : H0 D = none) (u : HO) : a.R st (upd H D u) := a.up st H _ h fun b hb => by
  obtain ⟨v, e⟩ := a.tr st0 H0 b h0 hb
  rw [upd_ne (ne_of_none e hD)]
/-- what must be tracked at a call stands all the way -/
def Stab {S : Type} (a : AskIs S) (Pre : Hp → Prop) : Prop := ∀ st H H', a.R st H → Pre H → ButS a.M H H' → Pre H'
theorem stab_code {S : Type} (a : AskIs S) (c : Addr) (qn : Str) : Stab a (LPre c qn) := fun _ _ _ hR hp b => b _ _ hp ((a.mok _ _ hR).code hp)
/-- the asking: the answer, the state behind -/
def AskIs.sp {S : Type} (a : AskIs S) : Sp := fun vs H Q _ => ∃ (s : Str) (st : S), vs = [.str s] ∧ a.D s ∧ a.J 1 st ∧ a.R st H ∧ ∀ H', ButS a.M H H' → a.R (a.n st s) H' → Q (.int (a.o st s)) H'
section
variable {S : Type} (a : AskIs S) (f : Addr) (Pre : Hp → Prop)
def spAns (m : Nat) : Sp := fun vs H Q _ => ∃ (v : V) (t : T) (st : S), vs = [v, .ref f] ∧ TA H v t ∧ WF t ∧ Nm a.D t ∧ dep t ≤ m ∧ Sz t ≤ 100000 ∧ a.J (cst t) st ∧ a.R st H ∧ Pre H ∧
  ∀ H', ButS a.M H H' → a.R (ans a.o a.n t st).2 H' → Q (.int (ans a.o a.n t st).1) H'
def spGateA (m : Nat) : Sp := fun vs H Q _ => ∃ (v : V) (s : Str) (b : Int) (t : T) (st : S), vs = [v, .ref f] ∧ TA H v (.gate s b t) ∧ WF (.gate s b t) ∧ Nm a.D (.gate s b t) ∧ dep t ≤ m ∧ Sz t ≤ 100000 ∧ a.J (cst (.gate s b t)) st ∧ a.R st H ∧ Pre H ∧
  ∀ H', ButS a.M H H' → a.R (ans a.o a.n (.gate s b t) st).2 H' → Q (.int (ans a.o a.n (.gate s b t) st).1) H'
def spLeastA (m : Nat) : Sp := fun vs H Q _ => ∃ (p : Addr) (xs : List V) (ts : List T) (st : S), vs = [.ref p, .ref f] ∧ H p = some (.tup xs) ∧ TAs H xs ts ∧ 0 < ts.length ∧ WFs ts ∧ Nms a.D ts ∧ deps ts ≤ m ∧ Szs ts ≤ 100000 ∧ a.J (csts ts) st ∧ a.R st H ∧ Pre H ∧
  ∀ H', ButS a.M H H' → a.R (ansl a.o a.n ts 30 st).2 H' → Q (.int (ansl a.o a.n ts 30 st).1) H'
end
structure TxtA (mg : Str → Option Value) : Prop where
  min : mg "min" = none
  max : mg "max" = none
  sum : mg "sum" = none
  gGr : ∃ t, mg "GREATEST" = some (.int 30 t)
theorem ans_gate {S : Type} {o : S → Str → Int} {n : S → Str → S} {s : Str} {b : Int} {t : T} {st : S} : ans o n (.gate s b t) st = if o st s < b then (0, n st s) else ans o n t (n st s) := by
  conv => lhs; unfold ans
theorem szs_len : ∀ l : List T, l.length ≤ Szs l
  | [] => Nat.le_refl 0
  | u :: r => by have := szs_len r; show r.length + 1 ≤ Sz u + 3 + Szs r; omega
section
variable {P : Program} {w : World} {K : PySem.W.Frag} {mg : Str → Option Value} {base : Heap} {S : Type} {a : AskIs S} {f : Addr} {Pre : Hp → Prop} {kc : Nat} (CL : Clo P w K mg base CX0 kc f Pre a.sp) (ST : Stab a Pre)
include CL ST
theorem ok_gateA {m k : Nat} (hk : kc ≤ k) {e g : Addr} {ed gd : FuncData} (F : Fun K "gate_answer" "gate_answer" s_gate_answer e ed) (G : FnOk P w K mg base CX0 k g gd ["recipe", "ask"] (spAns a f Pre m)) (b : Binds K gd ["recipe", "ask"] []) (kG : PySem.W.keepIn K (.ref g) = true) (mG : mg "answer_of" = some (.ref g)) :
    FnOk P w K mg base CX0 (k + 1) e ed ["recipe", "ask"] (spGateA a f Pre m) := by
  refine F.ok sc_gate_answer (fun vs H Q E h => ?_) (fun cdv A outer s H vs Q E hr h => ?_)
  · obtain ⟨v, s, b, t, st, rfl, _⟩ := h
    rfl
  obtain ⟨v, s, bd, t, st, rfl, tv, wf, nm, dp, sz, hI, hR, hp, q⟩ := h
  have nd := sc_gate_answer.nd
  refine ⟨_, pss_cons (ps_asg (pv 0) (pg_tup (by rfl) (pgs_cons (pg_name (i := 2) nd rfl (.inl rfl)) (pgs_cons (pg_name (i := 3) nd rfl (.inl rfl)) (pgs_cons (pg_name (i := 4) nd rfl (.inl rfl)) (pgs_cons (pg_name (i := 5) nd rfl (.inl rfl)) pgs_nil))))))
    (pss_cons (ps_if (pt_cmpR op_lt (pe_clo (i := 1) CL (hr.mono hk) pass0 rfl (.inl rfl) (pa_cons (pv 3) pa_nil)) (pv 4) (nomark _)) (pss_one (ps_ret pe_int)) pss_nil)
    (pss_one (ps_ret (pe_call G hr rfl mG kG b .nil pass0 (pa_cons (pv 5) (pa_cons (pv 1) pa_nil)))))), ?_⟩
  cases tv with
  | @gate ad z b2 v1 t1 e tv1 =>
    refine ⟨_, rfl, ad, _, rfl, SqT.of e, rfl, _, _, rfl, _, _, rfl, _, _, rfl, _, _, rfl, rfl, ?_⟩
    refine ⟨rfl, hp, _, rfl, hp, s, st, rfl, nm.1, a.ok.le (k := 1) hI (by show 1 ≤ cst t + 1; omega), hR, fun H1 b1 R1 => ?_⟩
    refine ⟨_, rfl, _, _, rfl, rfl, _, rfl, ?_⟩
    have mk := a.mok st H hR
    rw [ans_gate] at q
    by_cases c1 : a.o st s < bd
    · rw [if_pos c1] at q
      rw [decide_eq_true c1]
      exact iteT (q H1 b1 R1)
    · rw [if_neg c1] at q
      rw [decide_eq_false c1]
      refine iteF ⟨_, rfl, _, rfl, v1, t, a.n st s, rfl, tv1.mono (mk.tups b1), wf.2, nm.2, dp, sz, a.ok.st _ st s hI nm.1, R1, ST _ _ _ hR hp b1, fun H2 b2 R2 => ?_⟩
      exact q H2 (b1.trans b2) R2
theorem ok_leastA {m k : Nat} (T : TxtA mg) {e g : Addr} {ed gd : FuncData} (F : Fun K "least_answer" "least_answer" s_least_answer e ed) (G : FnOk P w K mg base CX0 k g gd ["recipe", "ask"] (spAns a f Pre m)) (b : Binds K gd ["recipe", "ask"] []) (kG : PySem.W.keepIn K (.ref g) = true) (mG : mg "answer_of" = some (.ref g)) :
    FnOk P w K mg base CX0 (k + 1) e ed ["pieces", "ask"] (spLeastA a f Pre m) := by
  refine F.ok sc_least_answer (fun vs H Q E h => ?_) (fun cdv A outer s H vs Q E hr h => ?_)
  · obtain ⟨p, xs, ts, st, rfl, _⟩ := h
    rfl
  obtain ⟨p, xs, ts, st, rfl, hx, tas, h0, wf, nm, dp, sz, hI, hR, hp, q⟩ := h
  have nd := sc_least_answer.nd
  refine ⟨_, pss_cons (ps_set (i := 2) nd rfl (.inl rfl) (pe_lst pa_nil))
    (pss_cons (ps_for PassesOwn.never rfl (pi_tup (pv 0)) (pg_name (i := 3) nd rfl (.inl rfl))
      (pss_cons (ps_set (i := 4) nd rfl (.inl rfl) (pe_call G hr rfl mG kG b .nil pass0 (pa_cons (pv 3) (pa_cons (pv 1) pa_nil))))
      (pss_cons (ps_expr (pe_bm PySem.F.plainAttrs_list PySem.F.slot_list_append PySem.F.type_list_append mt_append (pv 2) (pa_cons (pv 4) pa_nil)))
      (pss_one (ps_if (pt_cmpR op_eq (pv 4) pe_int (nomark _)) (pss_one ps_break) pss_nil)))))
    (pss_one (ps_ret (pe_callB (cr_min rfl) (by rfl) T.min (by decide +kernel) (pa_cons (pv 2) pa_nil))))), ?_⟩
  refine ⟨(by show 0 ≤ sizeLine; decide), fun D hD => ?_⟩
  have s1 := same_new hD (.lst [])
  have mk := a.mok st H hR
  have nD : ¬ a.M D := mk.new hD
  have np : ¬ a.M p := fun hc => by rcases mk p hc with ⟨ys, e, _⟩ | ⟨kvs, e⟩ <;> (rw [hx] at e; cases e)
  have lt := szs_len ts
  -- behind the loop
  have after : ∀ (acc : List Int) (st' : S) (v3 v4 : Option V) (H' : Hp), ansl a.o a.n ts 30 st = (minL acc, st') → 0 < acc.length → (∀ x ∈ acc, 0 ≤ x ∧ x ≤ 30) → ButS a.M H H' → a.R st' H' → H' D = some (.lst (acc.map V.int)) →
      (tRet (tCB (rMin K) (tCons (tVar 2) tNil))) { nx := fun _ H' => Q .non H', rt := Q } [some (.ref p), some (.ref f), some (.ref D), v3, v4] H' := by
    intro acc st' v3 v4 H' e hl hb b' R' eD
    refine ⟨_, rfl, D, acc, rfl, SqL.of eD, hl, fun m hm hle => ?_⟩
    have r := q H' b' (by rw [e]; exact R')
    rw [e, minL_is hm hle fun x hx => (hb x hx).2] at r
    exact r
  refine ⟨_, rfl, p, rfl, ⟨_, SqT.of (s1 _ _ hx)⟩, for_tup (K := K) (a := p) (xs := xs) (fun i σ H' => ∃ (acc : List Int) (st' : S) (v3 v4 : Option V), σ = [some (.ref p), some (.ref f), some (.ref D), v3, v4] ∧ ansl a.o a.n ts 30 st = ansl a.o a.n (ts.drop i) (minL acc) st' ∧ acc.length = i ∧ 0 < minL acc ∧ (∀ x ∈ acc, 0 ≤ x ∧ x ≤ 30) ∧ ButS a.M H H' ∧ a.J (csts (ts.drop i)) st' ∧ a.R st' H' ∧ Pre H' ∧ H' D = some (.lst (acc.map V.int)))
    ⟨[], st, none, none, rfl, rfl, rfl, by decide, (fun x hx => by cases hx), ButS.of_same s1, hI, a.same hR s1, ST _ _ _ hR hp (ButS.of_same s1), upd_same⟩ (fun i σ H' _ ⟨_, _, _, _, _, _, _, _, _, b', _⟩ => SqT.of (b' _ _ hx np)) ?_ ?_⟩
  · rintro i x σ H1 hi ⟨acc, st', v3, v4, rfl, e, hl, hpos, hb, b1, I1, R1, p1, eD⟩
    obtain ⟨t, ht, tv⟩ := tas.get hi
    have hmem := List.mem_of_getElem? ht
    have ed : ts.drop i = t :: ts.drop (i + 1) := by
      have hlt := (List.getElem?_eq_some_iff.mp ht).1
      have z := (List.getElem?_eq_some_iff.mp ht).2
      rw [List.drop_eq_getElem_cons hlt, z]
    rw [ed, ansl_cons hpos, ← minL_snoc] at e
    rw [csts_drop ht] at I1
    obtain ⟨a1, a2, a3⟩ := ans_ok a.ok t _ st' (wf.mem hmem) (nm.mem hmem) I1
    have mk1 := a.mok st' H1 R1
    refine ⟨_, rfl, _, rfl, x, t, st', rfl, tv.mono (mk.tups b1), wf.mem hmem, nm.mem hmem, Nat.le_trans (dep_mem hmem) dp, Nat.le_trans (Sz_mem hmem) sz, a.ok.le I1 (Nat.le_add_left _ _), R1, p1, fun H2 b2 R2 => ?_⟩
    have eD2 := b2 _ _ eD nD
    have hil := (List.getElem?_eq_some_iff.mp ht).1
    refine ⟨_, rfl, .inl ⟨rfl, _, SqL.of eD2⟩, _, rfl, D, _, _, rfl, rfl, eD2, ?_, ?_⟩
    · rw [List.length_map]; exact Nat.lt_of_lt_of_le (by omega : acc.length < 100001) (by decide)
    have mk2 := a.mok _ H2 R2
    have b3 : ButS a.M H (upd H2 D (.lst (acc.map V.int ++ [.int (ans a.o a.n t st').1]))) := fun b u hb' hc => by
      rw [upd_ne (ne_of_none hb' hD)]
      exact (b1.trans b2) b u hb' hc
    have R3 : a.R (ans a.o a.n t st').2 (upd H2 D (.lst (acc.map V.int ++ [.int (ans a.o a.n t st').1]))) := a.put R2 hR hD _
    refine ⟨_, rfl, rfl, _, rfl, ?_⟩
    have hb' : ∀ y ∈ acc ++ [(ans a.o a.n t st').1], 0 ≤ y ∧ y ≤ 30 := fun y hy => by
      rcases List.mem_append.mp hy with z | z
      · exact hb y z
      · rw [List.mem_singleton.mp z]; exact ⟨a1, a2⟩
    have eacc : (upd H2 D (.lst (acc.map V.int ++ [.int (ans a.o a.n t st').1]))) D = some (.lst ((acc ++ [(ans a.o a.n t st').1]).map V.int)) := by
      rw [upd_same, List.map_append]
      rfl
    by_cases c0 : (ans a.o a.n t st').1 = 0
    · rw [show decide (V.int (ans a.o a.n t st').1 = V.int 0) = true from decide_eq_true (by rw [c0])]
      refine iteT ?_
      refine after (acc ++ [(ans a.o a.n t st').1]) (ans a.o a.n t st').2 _ _ _ ?_ (by rw [List.length_append, List.length_singleton]; omega) hb' b3 R3 eacc
      have z : minL (acc ++ [(ans a.o a.n t st').1]) = 0 := by rw [minL_snoc, c0]; omega
      rw [e, z, ansl_zero]
    · rw [show decide (V.int (ans a.o a.n t st').1 = V.int 0) = false from decide_eq_false (by intro z; exact c0 (V.int.inj z))]
      refine iteF ⟨acc ++ [(ans a.o a.n t st').1], (ans a.o a.n t st').2, _, _, rfl, e, by rw [List.length_append, List.length_singleton, hl], ?_, hb', b3, a3, R3, ?_, eacc⟩
      · rw [minL_snoc]; omega
      · exact ST _ _ _ hR hp b3
  · rintro σ H1 ⟨acc, st', v3, v4, rfl, e, hl, hpos, hb, b1, I1, R1, p1, eD⟩
    rw [tas.length, List.drop_length] at e
    refine after acc st' v3 v4 H1 ?_ (by rw [hl, tas.length]; exact h0) hb b1 R1 eD
    rw [e]
    unfold ansl
    rfl
end
end Aw

namespace Aw
open PySem L2
section
variable {P : Program} {w : World} {K : PySem.W.Frag} {mg : Str → Option Value} {base : Heap} {S : Type} {a : AskIs S} {f : Addr} {Pre : Hp → Prop} {kc : Nat} (CL : Clo P w K mg base CX0 kc f Pre a.sp) (ST : Stab a Pre)
include CL ST
theorem ok_ansOf0 {k : Nat} (hk : kc ≤ k) {e : Addr} {ed : FuncData} (F : Fun K "answer_of" "answer_of" s_answer_of e ed) : FnOk P w K mg base CX0 (k + 1) e ed ["recipe", "ask"] (spAns a f Pre 0) := by
  refine F.ok sc_answer_of (fun vs H Q E h => ?_) (fun cdv A outer s H vs Q E hr h => ?_)
  · obtain ⟨v, t, st, rfl, _⟩ := h
    rfl
  obtain ⟨v, t, st, rfl, tv, wf, nm, dp, sz, hI, hR, hp, q⟩ := h
  have nd := sc_answer_of.nd
  refine ⟨_, pss_cons (ps_set (i := 2) nd rfl (.inl rfl) (pe_ix ix_tup (pv 0) pe_int (fun _ _ => rfl)))
    (pss_cons (ps_if (pt_cmpR op_eq (pv 2) pe_str (nomark _)) (pss_one (ps_ret (pe_ix ix_tup (pv 0) pe_int (fun _ _ => rfl)))) pss_nil)
    (pss_cons (ps_if (pt_cmpR op_eq (pv 2) pe_str (nomark _)) (pss_one (ps_ret (pe_clo (i := 1) CL (hr.mono hk) pass0 rfl (.inr (.inl rfl)) (pa_cons (pe_ix ix_tup (pv 0) pe_int (fun _ _ => rfl)) pa_nil)))) pss_nil)
    (pss_cons ps_never (pss_cons ps_never (pss_cons ps_never (pss_cons ps_never (pss_one ps_never))))))), ?_⟩
  cases tv with
  | @num ad k e =>
    unfold ans at q
    exact ⟨_, rfl, ad, _, _, _, rfl, rfl, SqT.of e, rfl, _, rfl, rfl, _, rfl, iteT ⟨_, rfl, ad, _, _, _, rfl, rfl, SqT.of e, rfl, q H (ButS.refl _ _) hR⟩⟩
  | @name ad z e =>
    unfold ans at q
    refine ⟨_, rfl, ad, _, _, _, rfl, rfl, SqT.of e, rfl, _, rfl, rfl, _, rfl, ?_⟩
    refine iteF ⟨_, rfl, rfl, _, rfl, ?_⟩
    exact iteT ⟨rfl, hp, _, rfl, ad, _, _, _, rfl, rfl, SqT.of e, rfl, hp, z, st, rfl, nm, hI, hR, fun H1 b1 R1 => q H1 b1 R1⟩
  | gate e _ => exact absurd dp (by unfold dep; omega)
  | join e _ _ => exact absurd dp (by unfold dep; omega)
theorem ok_ansOfS {m k : Nat} (hk : kc ≤ k) (T : TxtA mg) {e gg gl : Addr} {ed dg dl : FuncData} (F : Fun K "answer_of" "answer_of" s_answer_of e ed) (G : FnOk P w K mg base CX0 k e ed ["recipe", "ask"] (spAns a f Pre m)) (b : Binds K ed ["recipe", "ask"] []) (mA : mg "answer_of" = some (.ref e))
    (GG : FnOk P w K mg base CX0 (k + 1) gg dg ["recipe", "ask"] (spGateA a f Pre m)) (bG : Binds K dg ["recipe", "ask"] []) (kG : PySem.W.keepIn K (.ref gg) = true) (mG : mg "gate_answer" = some (.ref gg))
    (GL : FnOk P w K mg base CX0 (k + 1) gl dl ["pieces", "ask"] (spLeastA a f Pre m)) (bL : Binds K dl ["pieces", "ask"] []) (kL : PySem.W.keepIn K (.ref gl) = true) (mL : mg "least_answer" = some (.ref gl)) :
    FnOk P w K mg base CX0 (k + 2) e ed ["recipe", "ask"] (spAns a f Pre (m + 1)) := by
  refine F.ok sc_answer_of (fun vs H Q E h => ?_) (fun cdv A outer s H vs Q E hr h => ?_)
  · obtain ⟨v, t, st, rfl, _⟩ := h
    rfl
  obtain ⟨v, t, st, rfl, tv, wf, nm, dp, sz, hI, hR, hp, q⟩ := h
  have nd := sc_answer_of.nd
  have hr1 : Room k _ := hr.mono (by omega)
  refine ⟨_, pss_cons (ps_set (i := 2) nd rfl (.inl rfl) (pe_ix ix_tup (pv 0) pe_int (fun _ _ => rfl)))
    (pss_cons (ps_if (pt_cmpR op_eq (pv 2) pe_str (nomark _)) (pss_one (ps_ret (pe_ix ix_tup (pv 0) pe_int (fun _ _ => rfl)))) pss_nil)
    (pss_cons (ps_if (pt_cmpR op_eq (pv 2) pe_str (nomark _)) (pss_one (ps_ret (pe_clo (i := 1) CL (hr.mono (by omega)) pass0 rfl (.inr (.inl rfl)) (pa_cons (pe_ix ix_tup (pv 0) pe_int (fun _ _ => rfl)) pa_nil)))) pss_nil)
    (pss_cons (ps_if (pt_cmpR op_eq (pv 2) pe_str (nomark _)) (pss_one (ps_ret (pe_call GG hr rfl mG kG bG .nil pass0 (pa_cons (pv 0) (pa_cons (pv 1) pa_nil))))) pss_nil)
    (pss_cons (ps_if (pt_cmpR op_eq (pv 2) pe_str (nomark _)) (pss_one (ps_ret (pe_call GL hr rfl mL kL bL .nil pass0 (pa_cons (pe_ix ix_tup (pv 0) pe_int (fun _ _ => rfl)) (pa_cons (pv 1) pa_nil))))) pss_nil)
    (pss_cons (ps_setLc (i := 3) (own := [("piece", 4)]) (g := gName 4) rfl nd rfl rfl (sw_true rfl rfl rfl (by decide +kernel)) (pi_tup (pe_ix ix_tup (pv 0) pe_int (fun _ _ => rfl))) (blkOk_by (N := ["recipe", "ask", "kind", "answers", "piece"]) (sc := defScope s_answer_of) (by decide +kernel))
      (fun _ _ _ _ _ => pg_name (i := 4) nd rfl (.inl rfl)) (fun _ _ _ _ _ => pts_nil) (fun _ _ _ _ _ => pe_call G hr1 rfl mA F.kp b .nil pass0 (pa_cons (pv 4) (pa_cons (pv 1) pa_nil))))
    (pss_cons (ps_if (pt_cmpR op_eq (pv 2) pe_str (nomark _)) (pss_one (ps_ret (pe_callB (call_min2 rfl) (by rfl) T.min (by decide +kernel) (pa_cons (pe_gI T.gGr) (pa_cons (pe_callB (cr_sum rfl) (by rfl) T.sum (by decide +kernel) (pa_cons (pv 3) pa_nil)) pa_nil))))) pss_nil)
    (pss_one (ps_ret (pe_callB (cr_max rfl) (by rfl) T.max (by decide +kernel) (pa_cons (pv 3) pa_nil)))))))))), ?_⟩
  cases tv with
  | @num ad k e =>
    unfold ans at q
    exact ⟨_, rfl, ad, _, _, _, rfl, rfl, SqT.of e, rfl, _, rfl, rfl, _, rfl, iteT ⟨_, rfl, ad, _, _, _, rfl, rfl, SqT.of e, rfl, q H (ButS.refl _ _) hR⟩⟩
  | @name ad z e =>
    unfold ans at q
    refine ⟨_, rfl, ad, _, _, _, rfl, rfl, SqT.of e, rfl, _, rfl, rfl, _, rfl, ?_⟩
    refine iteF ⟨_, rfl, rfl, _, rfl, ?_⟩
    exact iteT ⟨rfl, hp, _, rfl, ad, _, _, _, rfl, rfl, SqT.of e, rfl, hp, z, st, rfl, nm, hI, hR, fun H1 b1 R1 => q H1 b1 R1⟩
  | @gate ad z bd v1 t1 e tv1 =>
    refine ⟨_, rfl, ad, _, _, _, rfl, rfl, SqT.of e, rfl, _, rfl, rfl, _, rfl, ?_⟩
    refine iteF ⟨_, rfl, rfl, _, rfl, ?_⟩
    refine iteF ⟨_, rfl, rfl, _, rfl, ?_⟩
    refine iteT ⟨_, rfl, _, rfl, .ref ad, z, bd, t1, st, rfl, .gate e tv1, wf, nm, (by unfold dep at dp; omega), (by have z1 : z.length + 8 + Sz t1 ≤ 100000 := sz; omega), hI, hR, hp, q⟩
  | @join ad p kd vs ts e e2 tvs =>
    have szs : 2 + Szs ts ≤ 100000 := sz
    have dps : deps ts ≤ m := by unfold dep at dp; omega
    have mk := a.mok st H hR
    have np : ¬ a.M p := fun hc => by rcases mk p hc with ⟨ys, z, _⟩ | ⟨kvs, z⟩ <;> (rw [e2] at z; cases z)
    refine ⟨_, rfl, ad, _, _, _, rfl, rfl, SqT.of e, rfl, _, rfl, rfl, _, rfl, ?_⟩
    rw [kd_num]
    refine iteF ⟨_, rfl, rfl, _, rfl, ?_⟩
    rw [kd_name]
    refine iteF ⟨_, rfl, rfl, _, rfl, ?_⟩
    rw [kd_gate]
    refine iteF ⟨_, rfl, rfl, _, rfl, ?_⟩
    by_cases hl : kd = .least
    · subst hl
      refine iteT ⟨_, rfl, ad, _, _, _, rfl, rfl, SqT.of e, rfl, _, rfl, p, vs, ts, st, rfl, e2, tvs, wf.1, wf.2, nm, dps, by omega, hI, hR, hp, fun H1 b1 R1 => ?_⟩
      unfold ans at q
      exact q H1 b1 R1
    · rw [show decide (V.str kd.nm = V.str "least") = false by cases kd <;> first | exact absurd rfl hl | decide +kernel]
      refine iteF ⟨_, rfl, ad, _, _, _, rfl, rfl, SqT.of e, rfl, p, rfl, ⟨_, SqT.of e2⟩, fun D hD => ?_⟩
      have s1 := same_new hD (.lst [])
      have nD : ¬ a.M D := mk.new hD
      have lt := szs_len ts
      refine walk_gen (walk_tup (K := K) (a := p) (xs := vs)) (fun i H' => H' D = some (.lst ((anss a.o a.n (ts.take i) st).1.map V.int)) ∧ a.R (anss a.o a.n (ts.take i) st).2 H' ∧ a.J (csts (ts.drop i)) (anss a.o a.n (ts.take i) st).2 ∧ ButS a.M H H' ∧ Pre H')
        ⟨upd_same, a.same hR s1, hI, ButS.of_same s1, ST _ _ _ hR hp (ButS.of_same s1)⟩ (fun i H' _ h => SqT.of (h.2.2.2.1 _ _ e2 np)) ?_ ?_
      · rintro i x H1 H2 hi ⟨eD, R1, I1, b1, p1⟩ ⟨rfl, hx⟩
        obtain ⟨t5, ht5, tv5⟩ := tvs.get hx
        have m5 := List.mem_of_getElem? ht5
        have hil := (List.getElem?_eq_some_iff.mp ht5).1
        rw [csts_drop ht5] at I1
        obtain ⟨a1, a2, a3⟩ := ans_ok a.ok t5 _ _ (wf.2.mem m5) (nm.mem m5) I1
        have mk1 := a.mok _ _ R1
        refine ⟨rfl, ?_⟩
        refine ⟨_, rfl, _, rfl, x, t5, _, rfl, tv5.mono (mk.tups b1), wf.2.mem m5, nm.mem m5, Nat.le_trans (dep_mem m5) dps, Nat.le_trans (Sz_mem m5) (by omega), a.ok.le I1 (Nat.le_add_left _ _), R1, p1, fun H3 b3 R3 => ?_⟩
        have b13 := b1.trans b3
        refine ⟨_, b3 _ _ eD nD, ?_, ?_, ?_, ?_, fun b' u hb' hc => ?_, ?_⟩
        · rw [List.length_map, anss_len, List.length_take]; exact Nat.lt_of_lt_of_le (by omega : min i ts.length < 100001) (by decide)
        · rw [upd_same, take_more ht5, anss_snoc, List.map_append]
          rfl
        · rw [take_more ht5, anss_snoc]
          exact a.put R3 hR hD _
        · rw [take_more ht5, anss_snoc]
          exact a3
        · rw [upd_ne (ne_of_none hb' hD)]
          exact b13 b' u hb' hc
        · exact ST _ _ _ hR hp (fun b' u hb' hc => by rw [upd_ne (ne_of_none hb' hD)]; exact b13 b' u hb' hc)
      · rintro H1 ⟨eD, R1, I1, b1, p1⟩
        rw [tvs.length, List.take_length] at eD R1
        have al := anss_len a.o a.n ts st
        cases kd with
        | least => exact absurd rfl hl
        | sum =>
          unfold ans at q
          refine ⟨_, rfl, rfl, _, rfl, iteT ?_⟩
          refine ⟨_, rfl, D, _, rfl, SqL.of eD, _, _, rfl, ?_⟩
          have r := q H1 b1 R1
          rw [show (min 30 (anss a.o a.n ts st).1.sum) = (if (anss a.o a.n ts st).1.sum < 30 then (anss a.o a.n ts st).1.sum else 30) by split <;> omega] at r
          exact r
        | most =>
          unfold ans at q
          refine ⟨_, rfl, rfl, _, rfl, iteF ?_⟩
          refine ⟨_, rfl, D, _, rfl, SqL.of eD, (by rw [al]; exact wf.1), fun mx hm hle => ?_⟩
          have r := q H1 b1 R1
          rw [← maxL_is hm hle] at r
          exact r
end
end Aw

namespace Aw
open PySem L2
section
variable {S : Type} (a : AskIs S) (f : Addr) (Pre : Hp → Prop)
def spLAns (m : Nat) : Sp := fun vs H Q _ => ∃ (v : V) (t : T) (st : S), vs = [v, .ref f] ∧ LA H v t ∧ WF t ∧ Nm a.D t ∧ dep t ≤ m ∧ Sz t ≤ 100000 ∧ a.J (cst t) st ∧ a.R st H ∧ Pre H ∧
  ∀ H', ButS a.M H H' → a.R (ans a.o a.n t st).2 H' → Q (.int (ans a.o a.n t st).1) H'
end
section
variable {P : Program} {w : World} {K : PySem.W.Frag} {mg : Str → Option Value} {base : Heap} {S : Type} {a : AskIs S} {f : Addr} {Pre : Hp → Prop} {kc : Nat} (CL : Clo P w K mg base CX0 kc f Pre a.sp) (ST : Stab a Pre)
include CL ST
theorem ok_lans0 {k : Nat} (hk : kc ≤ k) {e : Addr} {ed : FuncData} (F : Fun K "_law_answer" "_law_answer" s_law_answer e ed) : FnOk P w K mg base CX0 (k + 1) e ed ["_law_tree_here", "_law_ask"] (spLAns a f Pre 0) := by
  refine F.ok sc_law_answer (fun vs H Q E h => ?_) (fun cdv A outer s H vs Q E hr h => ?_)
  · obtain ⟨v, t, st, rfl, _⟩ := h
    rfl
  obtain ⟨v, t, st, rfl, tv, wf, nm, dp, sz, hI, hR, hp, q⟩ := h
  refine ⟨_, pss_cons (ps_if (pt_cmpR op_eq (pe_ix ix_tup (pv 0) pe_int (fun _ _ => rfl)) pe_str (nomark _)) (pss_one (ps_ret (pe_ix ix_tup (pv 0) pe_int (fun _ _ => rfl)))) pss_nil)
    (pss_cons (ps_if (pt_cmpR op_eq (pe_ix ix_tup (pv 0) pe_int (fun _ _ => rfl)) pe_str (nomark _)) (pss_one (ps_ret (pe_clo (i := 1) CL (hr.mono hk) pass0 rfl (.inr (.inl rfl)) (pa_cons (pe_ix ix_tup (pv 0) pe_int (fun _ _ => rfl)) pa_nil)))) pss_nil)
    (pss_cons ps_never (pss_cons ps_never (pss_cons ps_never (pss_cons ps_never (pss_one ps_never)))))), ?_⟩
  cases tv with
  | @num ad k e =>
    unfold ans at q
    exact ⟨_, rfl, ad, _, _, _, rfl, rfl, SqT.of e, rfl, rfl, _, rfl, iteT ⟨_, rfl, ad, _, _, _, rfl, rfl, SqT.of e, rfl, q H (ButS.refl _ _) hR⟩⟩
  | @name ad z e =>
    unfold ans at q
    refine ⟨_, rfl, ad, _, _, _, rfl, rfl, SqT.of e, rfl, rfl, _, rfl, ?_⟩
    refine iteF ⟨_, rfl, ad, _, _, _, rfl, rfl, SqT.of e, rfl, rfl, _, rfl, ?_⟩
    exact iteT ⟨rfl, hp, _, rfl, ad, _, _, _, rfl, rfl, SqT.of e, rfl, hp, z, st, rfl, nm, hI, hR, fun H1 b1 R1 => q H1 b1 R1⟩
  | gate e _ => exact absurd dp (by unfold dep; omega)
  | join e _ _ _ => exact absurd dp (by unfold dep; omega)
theorem ok_lansS {m k : Nat} (hk : kc ≤ k) (T : TxtA mg) {e : Addr} {ed : FuncData} (F : Fun K "_law_answer" "_law_answer" s_law_answer e ed) (G : FnOk P w K mg base CX0 k e ed ["_law_tree_here", "_law_ask"] (spLAns a f Pre m)) (b : Binds K ed ["_law_tree_here", "_law_ask"] []) (mA : mg "_law_answer" = some (.ref e)) :
    FnOk P w K mg base CX0 (k + 1) e ed ["_law_tree_here", "_law_ask"] (spLAns a f Pre (m + 1)) := by
  refine F.ok sc_law_answer (fun vs H Q E h => ?_) (fun cdv A outer s H vs Q E hr h => ?_)
  · obtain ⟨v, t, st, rfl, _⟩ := h
    rfl
  obtain ⟨v, t, st, rfl, tv, wf, nm, dp, sz, hI, hR, hp, q⟩ := h
  have nd := sc_law_answer.nd
  refine ⟨_, pss_cons (ps_if (pt_cmpR op_eq (pe_ix ix_tup (pv 0) pe_int (fun _ _ => rfl)) pe_str (nomark _)) (pss_one (ps_ret (pe_ix ix_tup (pv 0) pe_int (fun _ _ => rfl)))) pss_nil)
    (pss_cons (ps_if (pt_cmpR op_eq (pe_ix ix_tup (pv 0) pe_int (fun _ _ => rfl)) pe_str (nomark _)) (pss_one (ps_ret (pe_clo (i := 1) CL (hr.mono hk) pass0 rfl (.inr (.inl rfl)) (pa_cons (pe_ix ix_tup (pv 0) pe_int (fun _ _ => rfl)) pa_nil)))) pss_nil)
    (pss_cons (ps_if (pt_cmpR op_eq (pe_ix ix_tup (pv 0) pe_int (fun _ _ => rfl)) pe_str (nomark _))
      (pss_cons (ps_if (pt_cmpR op_lt (pe_clo (i := 1) CL (hr.mono hk) pass0 rfl (.inr (.inl rfl)) (pa_cons (pe_ix ix_tup (pv 0) pe_int (fun _ _ => rfl)) pa_nil)) (pe_ix ix_tup (pv 0) pe_int (fun _ _ => rfl)) (nomark _)) (pss_one (ps_ret pe_int)) pss_nil)
      (pss_one (ps_ret (pe_call G hr rfl mA F.kp b .nil pass0 (pa_cons (pe_ix ix_tup (pv 0) pe_int (fun _ _ => rfl)) (pa_cons (pv 1) pa_nil)))))) pss_nil)
    (pss_cons (ps_if (pt_cmpR op_eq (pe_ix ix_tup (pv 0) pe_int (fun _ _ => rfl)) pe_str (nomark _))
      (pss_cons (ps_set (i := 2) nd rfl (.inl rfl) pe_int)
      (pss_cons (ps_for PassesOwn.never rfl (pi_list (pe_ix ix_tup (pv 0) pe_int (fun _ _ => rfl))) (pg_name (i := 3) nd rfl (.inl rfl))
        (pss_one (ps_if (pt_cmpR op_gt (pv 2) pe_int (nomark _)) (pss_one (ps_set (i := 2) nd rfl (.inl rfl) (pe_callB (call_min2 rfl) (by rfl) T.min (by decide +kernel) (pa_cons (pv 2) (pa_cons (pe_call G hr rfl mA F.kp b .nil pass0 (pa_cons (pv 3) (pa_cons (pv 1) pa_nil))) pa_nil))))) pss_nil)))
      (pss_one (ps_ret (pv 2))))) pss_nil)
    (pss_cons (ps_setLc (i := 2) (own := [("_law_piece", 3)]) (g := gName 3) rfl nd rfl rfl (sw_true rfl rfl rfl (by decide +kernel)) (pi_list (pe_ix ix_tup (pv 0) pe_int (fun _ _ => rfl))) (blkOk_by (N := ["_law_tree_here", "_law_ask", "_law_found", "_law_piece"]) (sc := defScope s_law_answer) (by decide +kernel))
      (fun _ _ _ _ _ => pg_name (i := 3) nd rfl (.inl rfl)) (fun _ _ _ _ _ => pts_nil) (fun _ _ _ _ _ => pe_call G hr rfl mA F.kp b .nil pass0 (pa_cons (pv 3) (pa_cons (pv 1) pa_nil))))
    (pss_cons (ps_if (pt_cmpR op_eq (pe_ix ix_tup (pv 0) pe_int (fun _ _ => rfl)) pe_str (nomark _)) (pss_one (ps_ret (pe_callB (call_min2 rfl) (by rfl) T.min (by decide +kernel) (pa_cons pe_int (pa_cons (pe_callB (cr_sum rfl) (by rfl) T.sum (by decide +kernel) (pa_cons (pv 2) pa_nil)) pa_nil))))) pss_nil)
    (pss_one (ps_ret (pe_callB (cr_max rfl) (by rfl) T.max (by decide +kernel) (pa_cons (pv 2) pa_nil))))))))), ?_⟩
  cases tv with
  | @num ad k e =>
    unfold ans at q
    exact ⟨_, rfl, ad, _, _, _, rfl, rfl, SqT.of e, rfl, rfl, _, rfl, iteT ⟨_, rfl, ad, _, _, _, rfl, rfl, SqT.of e, rfl, q H (ButS.refl _ _) hR⟩⟩
  | @name ad z e =>
    unfold ans at q
    refine ⟨_, rfl, ad, _, _, _, rfl, rfl, SqT.of e, rfl, rfl, _, rfl, ?_⟩
    refine iteF ⟨_, rfl, ad, _, _, _, rfl, rfl, SqT.of e, rfl, rfl, _, rfl, ?_⟩
    exact iteT ⟨rfl, hp, _, rfl, ad, _, _, _, rfl, rfl, SqT.of e, rfl, hp, z, st, rfl, nm, hI, hR, fun H1 b1 R1 => q H1 b1 R1⟩
  | @gate ad z bd v1 t1 e tv1 =>
    have mk := a.mok st H hR
    have na : ¬ a.M ad := fun hc => by rcases mk ad hc with ⟨ys, x, _⟩ | ⟨kvs, x⟩ <;> (rw [e] at x; cases x)
    refine ⟨_, rfl, ad, _, _, _, rfl, rfl, SqT.of e, rfl, rfl, _, rfl, ?_⟩
    refine iteF ⟨_, rfl, ad, _, _, _, rfl, rfl, SqT.of e, rfl, rfl, _, rfl, ?_⟩
    refine iteF ⟨_, rfl, ad, _, _, _, rfl, rfl, SqT.of e, rfl, rfl, _, rfl, ?_⟩
    refine iteT ⟨rfl, hp, _, rfl, ad, _, _, _, rfl, rfl, SqT.of e, rfl, hp, z, st, rfl, nm.1, a.ok.le (k := 1) hI (by show 1 ≤ cst t1 + 1; omega), hR, fun H1 b1 R1 => ?_⟩
    have e1 := b1 _ _ e na
    refine ⟨_, rfl, ad, _, _, _, rfl, rfl, SqT.of e1, rfl, _, _, rfl, rfl, _, rfl, ?_⟩
    rw [ans_gate] at q
    by_cases c1 : a.o st z < bd
    · rw [if_pos c1] at q
      rw [decide_eq_true c1]
      exact iteT (q H1 b1 R1)
    · rw [if_neg c1] at q
      rw [decide_eq_false c1]
      refine iteF ⟨_, rfl, ad, _, _, _, rfl, rfl, SqT.of e1, rfl, _, rfl, v1, t1, a.n st z, rfl, tv1.mono (mk.keep b1), wf.2, nm.2, (by unfold dep at dp; omega), (by have z1 : z.length + 8 + Sz t1 ≤ 100000 := sz; omega), a.ok.st _ st z hI nm.1, R1, ST _ _ _ hR hp b1, fun H2 b2 R2 => ?_⟩
      exact q H2 (b1.trans b2) R2
  | @join ad p kd vs ts e e2 h0 tvs =>
    have szs : 2 + Szs ts ≤ 100000 := sz
    have dps : deps ts ≤ m := by unfold dep at dp; omega
    have mk := a.mok st H hR
    have na : ¬ a.M ad := fun hc => by rcases mk ad hc with ⟨ys, x, _⟩ | ⟨kvs, x⟩ <;> (rw [e] at x; cases x)
    have kp : ∀ {H'}, ButS a.M H H' → H' p = some (.lst vs) := fun {H'} b' => by
      obtain ⟨r0, r, er⟩ := tvs.headRef h0
      subst er
      exact (mk.keep b').2 _ _ _ e2
    refine ⟨_, rfl, ad, _, _, _, rfl, rfl, SqT.of e, rfl, rfl, _, rfl, ?_⟩
    rw [kd_num]
    refine iteF ⟨_, rfl, ad, _, _, _, rfl, rfl, SqT.of e, rfl, rfl, _, rfl, ?_⟩
    rw [kd_name]
    refine iteF ⟨_, rfl, ad, _, _, _, rfl, rfl, SqT.of e, rfl, rfl, _, rfl, ?_⟩
    rw [kd_gate]
    refine iteF ⟨_, rfl, ad, _, _, _, rfl, rfl, SqT.of e, rfl, rfl, _, rfl, ?_⟩
    have lt := szs_len ts
    by_cases hl : kd = .least
    · subst hl
      unfold ans at q
      refine iteT ⟨_, rfl, ad, _, _, _, rfl, rfl, SqT.of e, rfl, p, rfl, ⟨_, SqL.of e2⟩, for_list (K := K) (a := p) (xs := vs) (fun i σ H' => ∃ (cur : Int) (st' : S) (v3 : Option V), σ = [some (.ref ad), some (.ref f), some (.int cur), v3] ∧ ansl a.o a.n ts 30 st = ansl a.o a.n (ts.drop i) cur st' ∧ 0 ≤ cur ∧ cur ≤ 30 ∧ ButS a.M H H' ∧ a.J (csts (ts.drop i)) st' ∧ a.R st' H' ∧ Pre H')
        ⟨30, st, none, rfl, rfl, by decide, by decide, ButS.refl _ _, hI, hR, hp⟩ (fun i σ H' _ ⟨_, _, _, _, _, _, _, b', _⟩ => SqL.of (kp b')) ?_ ?_⟩
      · rintro i x σ H1 hi ⟨cur, st', v3, rfl, ee, c0, c30, b1, I1, R1, p1⟩
        obtain ⟨t, ht, tv⟩ := tvs.get hi
        have hmem := List.mem_of_getElem? ht
        have ed : ts.drop i = t :: ts.drop (i + 1) := by
          have hlt := (List.getElem?_eq_some_iff.mp ht).1
          have z := (List.getElem?_eq_some_iff.mp ht).2
          rw [List.drop_eq_getElem_cons hlt, z]
        rw [ed] at ee
        refine ⟨_, rfl, _, _, rfl, rfl, _, rfl, ?_⟩
        by_cases cp : 0 < cur
        · rw [decide_eq_true cp]
          rw [ansl_cons cp] at ee
          rw [csts_drop ht] at I1
          obtain ⟨a1, a2, a3⟩ := ans_ok a.ok t _ st' (wf.2.mem hmem) (nm.mem hmem) I1
          have mk1 := a.mok st' H1 R1
          refine iteT ⟨_, rfl, _, rfl, _, rfl, x, t, st', rfl, tv.mono (mk.keep b1), wf.2.mem hmem, nm.mem hmem, Nat.le_trans (dep_mem hmem) dps, Nat.le_trans (Sz_mem hmem) (by omega), a.ok.le I1 (Nat.le_add_left _ _), R1, p1, fun H2 b2 R2 => ?_⟩
          refine ⟨_, _, rfl, _, _, _, rfl, ?_, ?_, ?_, b1.trans b2, a3, R2, ST _ _ _ hR hp (b1.trans b2)⟩
          · rw [show (if (ans a.o a.n t st').1 < cur then (ans a.o a.n t st').1 else cur) = min cur (ans a.o a.n t st').1 by split <;> omega]
            exact ee
          · split <;> omega
          · split <;> omega
        · rw [decide_eq_false cp]
          rw [csts_drop ht] at I1
          refine iteF ⟨cur, st', _, rfl, ?_, c0, c30, b1, a.ok.add _ I1, R1, p1⟩
          have z : cur = 0 := by omega
          rw [ee, z, ansl_zero, ansl_zero]
      · rintro σ H1 ⟨cur, st', v3, rfl, ee, c0, c30, b1, I1, R1, p1⟩
        rw [tvs.length, List.drop_length] at ee
        have ee2 : ansl a.o a.n ts 30 st = (cur, st') := by
          rw [ee]
          unfold ansl
          rfl
        have r := q H1 b1 (by rw [ee2]; exact R1)
        rw [ee2] at r
        exact ⟨_, rfl, r⟩
    · rw [show decide (V.str kd.nm = V.str "least") = false by cases kd <;> first | exact absurd rfl hl | decide +kernel]
      refine iteF ⟨_, rfl, ad, _, _, _, rfl, rfl, SqT.of e, rfl, p, rfl, ⟨_, SqL.of e2⟩, fun D hD => ?_⟩
      have s1 := same_new hD (.lst [])
      have nD : ¬ a.M D := mk.new hD
      refine walk_gen (walk_list (K := K) (a := p) (xs := vs)) (fun i H' => H' D = some (.lst ((anss a.o a.n (ts.take i) st).1.map V.int)) ∧ a.R (anss a.o a.n (ts.take i) st).2 H' ∧ a.J (csts (ts.drop i)) (anss a.o a.n (ts.take i) st).2 ∧ ButS a.M H H' ∧ Pre H')
        ⟨upd_same, a.same hR s1, hI, ButS.of_same s1, ST _ _ _ hR hp (ButS.of_same s1)⟩ (fun i H' _ h => SqL.of (kp h.2.2.2.1)) ?_ ?_
      · rintro i x H1 H2 hi ⟨eD, R1, I1, b1, p1⟩ ⟨rfl, hx⟩
        obtain ⟨t5, ht5, tv5⟩ := tvs.get hx
        have m5 := List.mem_of_getElem? ht5
        rw [csts_drop ht5] at I1
        obtain ⟨a1, a2, a3⟩ := ans_ok a.ok t5 _ _ (wf.2.mem m5) (nm.mem m5) I1
        have mk1 := a.mok _ _ R1
        refine ⟨rfl, ?_⟩
        refine ⟨_, rfl, _, rfl, x, t5, _, rfl, tv5.mono (mk.keep b1), wf.2.mem m5, nm.mem m5, Nat.le_trans (dep_mem m5) dps, Nat.le_trans (Sz_mem m5) (by omega), a.ok.le I1 (Nat.le_add_left _ _), R1, p1, fun H3 b3 R3 => ?_⟩
        have b13 := b1.trans b3
        refine ⟨_, b3 _ _ eD nD, ?_, ?_, ?_, ?_, fun b' u hb' hc => ?_, ?_⟩
        · rw [List.length_map, anss_len, List.length_take]; exact Nat.lt_of_lt_of_le (by omega : min i ts.length < 100001) (by decide)
        · rw [upd_same, take_more ht5, anss_snoc, List.map_append]
          rfl
        · rw [take_more ht5, anss_snoc]
          exact a.put R3 hR hD _
        · rw [take_more ht5, anss_snoc]
          exact a3
        · rw [upd_ne (ne_of_none hb' hD)]
          exact b13 b' u hb' hc
        · exact ST _ _ _ hR hp (fun b' u hb' hc => by rw [upd_ne (ne_of_none hb' hD)]; exact b13 b' u hb' hc)
      · rintro H1 ⟨eD, R1, I1, b1, p1⟩
        rw [tvs.length, List.take_length] at eD R1
        have al := anss_len a.o a.n ts st
        have e1 := b1 _ _ e na
        cases kd with
        | least => exact absurd rfl hl
        | sum =>
          unfold ans at q
          refine ⟨_, rfl, ad, _, _, _, rfl, rfl, SqT.of e1, rfl, rfl, _, rfl, iteT ?_⟩
          refine ⟨_, rfl, D, _, rfl, SqL.of eD, _, _, rfl, ?_⟩
          have r := q H1 b1 R1
          rw [show (min 30 (anss a.o a.n ts st).1.sum) = (if (anss a.o a.n ts st).1.sum < 30 then (anss a.o a.n ts st).1.sum else 30) by split <;> omega] at r
          exact r
        | most =>
          unfold ans at q
          refine ⟨_, rfl, ad, _, _, _, rfl, rfl, SqT.of e1, rfl, rfl, _, rfl, iteF ?_⟩
          refine ⟨_, rfl, D, _, rfl, SqL.of eD, (by rw [al]; exact wf.1), fun mx hm hle => ?_⟩
          have r := q H1 b1 R1
          rw [← maxL_is hm hle] at r
          exact r
end
end Aw

namespace Aw
open PySem L2
/-! ### the packages: answer_of and the law's own walk, three storeys deep -/
structure AnD (K : PySem.W.Frag) (mg : Str → Option Value) (e gg gl : Addr) (ed dg dl : FuncData) : Prop where
  F : Fun K "answer_of" "answer_of" s_answer_of e ed
  FG : Fun K "gate_answer" "gate_answer" s_gate_answer gg dg
  FL : Fun K "least_answer" "least_answer" s_least_answer gl dl
  b : Binds K ed ["recipe", "ask"] []
  bG : Binds K dg ["recipe", "ask"] []
  bL : Binds K dl ["pieces", "ask"] []
  m : mg "answer_of" = some (.ref e)
  mG : mg "gate_answer" = some (.ref gg)
  mL : mg "least_answer" = some (.ref gl)
structure LnD (K : PySem.W.Frag) (mg : Str → Option Value) (e : Addr) (ed : FuncData) : Prop where
  F : Fun K "_law_answer" "_law_answer" s_law_answer e ed
  b : Binds K ed ["_law_tree_here", "_law_ask"] []
  m : mg "_law_answer" = some (.ref e)
section
variable {P : Program} {w : World} {K : PySem.W.Frag} {mg : Str → Option Value} {base : Heap} {S : Type} {a : AskIs S} {f : Addr} {Pre : Hp → Prop} {kc : Nat}
theorem ans_all (CL : Clo P w K mg base CX0 kc f Pre a.sp) (ST : Stab a Pre) (T : TxtA mg) {e gg gl : Addr} {ed dg dl : FuncData} (D : AnD K mg e gg gl ed dg dl) : ∀ m : Nat, FnOk P w K mg base CX0 (kc + 1 + 2 * m) e ed ["recipe", "ask"] (spAns a f Pre m)
  | 0 => ok_ansOf0 CL ST (Nat.le_refl kc) D.F
  | m + 1 => by
    have G := ans_all CL ST T D m
    have hk : kc ≤ kc + 1 + 2 * m := by omega
    exact ok_ansOfS CL ST hk T D.F G D.b D.m (ok_gateA CL ST hk D.FG G D.b D.F.kp D.m) D.bG D.FG.kp D.mG (ok_leastA CL ST T D.FL G D.b D.F.kp D.m) D.bL D.FL.kp D.mL
theorem lans_all (CL : Clo P w K mg base CX0 kc f Pre a.sp) (ST : Stab a Pre) (T : TxtA mg) {e : Addr} {ed : FuncData} (D : LnD K mg e ed) : ∀ m : Nat, FnOk P w K mg base CX0 (kc + 1 + m) e ed ["_law_tree_here", "_law_ask"] (spLAns a f Pre m)
  | 0 => ok_lans0 CL ST (Nat.le_refl kc) D.F
  | m + 1 => by
    have hk : kc ≤ kc + 1 + m := by omega
    exact ok_lansS CL ST hk T D.F (lans_all CL ST T D m) D.b D.m
end
/-! ### a promise with a choice -/
theorem FnOk_ex {P : Program} {w : World} {K : PySem.W.Frag} {mg : Str → Option Value} {base : Heap} {CX : CXT} {k : Nat} {f : Addr} {fd : FuncData} {ps : List Str} {ι : Type} {p : ι → Prop} {sp : ι → Sp} (len : ∀ i vs H Q E, sp i vs H Q E → vs.length = ps.length)
    (h : ∀ i, p i → FnOk P w K mg base CX k f fd ps (sp i)) : FnOk P w K mg base CX k f fd ps (fun vs H Q E => ∃ i, p i ∧ sp i vs H Q E) :=
  ⟨fun vs H Q E ⟨i, _, z⟩ => len i vs H Q E z, fun A outer s H args us vs Q E hr e0 hb r ⟨i, hp, z⟩ => (h i hp).run A outer s H args us vs Q E hr e0 hb r z⟩
/-! ### asking a dict -/
def asD (d : Addr) (kvs : List (Key × V)) : AskIs Unit where
  o _ s := match valV kvs (Sum.inr s) with
    | some (.int v) => v
    | _ => 0
  n _ _ := ()
  D s := ∃ v : Int, valV kvs (Sum.inr s) = some (.int v) ∧ 0 ≤ v ∧ v ≤ 30
  J _ _ := True
  R _ H := H d = some (.dK kvs)
  M _ := False
  ok := ⟨fun _ _ s _ ⟨v, e, h0, h1⟩ => by rw [e]; exact h0, fun _ _ s _ ⟨v, e, h0, h1⟩ => by rw [e]; exact h1, fun _ _ _ _ _ => True.intro, fun _ _ _ => True.intro⟩
  mok _ _ _ _ hc := hc.elim
  fp b := b = d
  tr _ H b h e := by subst e; exact ⟨_, h⟩
  up _ H H' h k := (k d rfl).trans h
theorem butF {H H' : Hp} : ButS (fun _ => False) H H' ↔ Same H H' := ⟨fun h b u e => h b u e (fun z => z), fun h b u e _ => h b u e⟩
section
variable {P : Program} {w : World} {K : PySem.W.Frag} {mg : Str → Option Value} {base : Heap} {f : Addr}
theorem clo_dict {M : LF} {xn xa : Str} {p1 p2 p3 : Pos} (hf : base.get? f = some M.obj) {d : Addr} (C : CellsB base M.cl [xn] [some (.ref d)]) (hbody : M.body = .Subscript (.Name xn p1) (.Name xa p2) p3) (S : NdefX.NScope [xa, xn] [xa] [xn] M.scope)
    (hb : ∀ us : List Value, us.length = 1 → bindArgs (PySem.W.kla_fn "<lambda>" M.qual M.params M.body M.scope M.cl M.pm (.ref M.c) M.ctv) ⟨us, []⟩ = pure ([xa].zip us))
    (d1 : (xn == ("__debug__" : Str)) = false) (d2 : (xn == ("__classdict__" : Str)) = false) (d3 : (xa == ("__debug__" : Str)) = false) (d4 : (xa == ("__classdict__" : Str)) = false) (kvs : List (Key × V)) :
    Clo P w K mg base CX0 1 f (LPre M.c M.qual) (asD d kvs).sp := by
  refine clo_lam (k := 0) (ps := [xa]) hf C S hb (fun vs H Q E h => ?_) (fun A outer s H vs Q E hr hp h => ?_)
  · obtain ⟨s, st, rfl, _⟩ := h
    rfl
  · obtain ⟨s, st, rfl, ⟨v, ev, v0, v1⟩, _, hR, q⟩ := h
    rw [hbody]
    refine ⟨_, pe_dget (hu_of hr) (pv 1 rfl (.inr (.inr (S.frk xn List.mem_cons_self))) d1 d2) (pv 0 rfl (.inl (S.par xa List.mem_cons_self)) d3 d4) (fun _ _ => rfl), ?_⟩
    refine ⟨_, rfl, _, rfl, d, .int v, rfl, ?_, ?_⟩
    · rw [← ev]
      exact DGet.k (k := Sum.inr s) hR
    · have r := q H (ButS.refl _ _) hR
      have e : (asD d kvs).o st s = v := by
        show (match valV kvs (Sum.inr s) with | some (.int v) => v | _ => 0) = v
        rw [ev]
      rw [e] at r
      exact r
end
/-! ### the whole-number check -/
def spWhole : Sp := fun vs H Q _ => ∃ i : Int, vs = [.int i] ∧ Q (.bl true) H
theorem ok_whole {P : Program} {w : World} {K : PySem.W.Frag} {mg : Str → Option Value} {base : Heap} {f : Addr} {fd : FuncData} (F : Fun K "_law_whole" "_law_whole" s_law_whole f fd) (z1 : mg "isinstance" = none) (z2 : mg "int" = none) (z3 : mg "bool" = none) : FnOk P w K mg base CX0 1 f fd ["_law_found"] spWhole := by
  refine F.ok sc_law_whole (fun vs H Q E h => ?_) (fun cdv A outer s H vs Q E hr h => ?_)
  · obtain ⟨i, rfl, _⟩ := h
    rfl
  obtain ⟨i, rfl, q⟩ := h
  refine ⟨_, pss_one (ps_ret (pe_and (pe_callB call_isi (by rfl) z1 (by decide +kernel) (pa_cons (pv 0) (pa_cons (pe_bltn (v := .ty "int") (by rfl) z2 (by decide +kernel) rfl) pa_nil)))
    (pe_one (pe_not (pe_callB call_isi (by rfl) z1 (by decide +kernel) (pa_cons (pv 0) (pa_cons (pe_bltn (v := .ty "bool") (by rfl) z3 (by decide +kernel) rfl) pa_nil))))))), ?_⟩
  refine ⟨_, rfl, _, _, _, _, true, rfl, .ty _, .base (.int _), kit_ty (by decide +kernel), _, rfl, ?_⟩
  rw [if_pos rfl]
  exact ⟨_, rfl, _, _, _, _, false, rfl, .ty _, .base (.int _), kit_ty (by decide +kernel), _, rfl, q⟩
end Aw

namespace Aw
open PySem L2
/-- the def with its code object known -/
theorem fun_okC {P : Program} {w : World} {K : PySem.W.Frag} {mg : Str → Option Value} {base : Heap} {x qual : Str} {st : Stmt} {f c : Addr} {oc : Value} {od an : Option Addr} {osl : Array (Option Value)} {kV doc pm ct : Value} {N ps : List Str} {k : Nat} {sp : Sp}
    (l : K.lookup f = some ⟨oc, od, .func (PySem.W.fnOf x qual (defArgs st) (defBody st) (defScope st) .none kV doc pm an (.ref c) ct), osl⟩) (hcd : PySem.W.codeIn K (.ref c) qual = true) (S : FnScope N ps (defScope st)) (len : ∀ vs H Q E, sp vs H Q E → vs.length = ps.length)
    (hbody : ∀ (A : Around) (outer : List Env) (s : Shared) (H : Hp) (vs : List V) (Q : VK) (E : XK), Room k (A.deeper (PyProof.Rows.envOfC qual (defScope st) s.heap.objs.size f (.ref c))) → sp vs H Q E →
      ∃ t, PSs (cxOf CX0 P w K mg base N qual (defScope st) f (.ref c) A outer s H E).nox (defBody st) t ∧ t { nx := fun _ H' => Q .non H', rt := Q } (start N vs) H) :
    FnOk P w K mg base CX0 (k + 1) f (PySem.W.fnOf x qual (defArgs st) (defBody st) (defScope st) .none kV doc pm an (.ref c) ct) ps sp := by
  refine fn_of l hcd S len fun A outer s H vs Q E hr hsp => ?_
  obtain ⟨t, h, q⟩ := hbody A outer s H vs Q E hr hsp
  exact ⟨t, h.nox, q⟩
/-! ### what stands, asked -/
def asS (d : Addr) (kvs : List (Key × V)) (h : SD kvs) : AskIs Unit where
  o _ s := num kvs s
  n _ _ := ()
  D _ := True
  J _ _ := True
  R _ H := H d = some (.dK kvs)
  M _ := False
  ok := okU h.rng
  mok _ _ _ _ hc := hc.elim
  fp b := b = d
  tr _ H b h e := by subst e; exact ⟨_, h⟩
  up _ H H' h k := (k d rfl).trans h
section
variable {P : Program} {w : World} {K : PySem.W.Frag} {mg : Str → Option Value} {base : Heap}
/-- a nested def handed down, as a thing that may be called -/
theorem clo_nok {CX : CXT} {k : Nat} {f : Addr} {F : NdefX.NF} {ps fr : List Str} {sp : List (Option V) → Sp} {ws : List (Option V)} (NO : NdefX.NOk P w K mg base CX k f F ps fr sp) (C : CellsB base F.cl fr ws) :
    Clo P w K mg base CX k f (fun H => H f = some (NdefX.FnO f F) ∧ H F.c = some (LamX.CodeO F.c F.qual)) (sp ws) :=
  ⟨fun h H _ hok hp => by
    obtain ⟨od, sl, doc, pm, ctv, e⟩ := NdefX.fnO_at hok hp.1
    exact ⟨_, od, _, sl, e⟩, fun A outer s H us vs Q E hr e0 hp r q => NO.run A outer s H us vs ws Q E hr e0 hp.1 hp.2 (C.at_ e0) r q⟩
theorem stab_nok {S : Type} (a : AskIs S) (f : Addr) (F : NdefX.NF) : Stab a (fun H => H f = some (NdefX.FnO f F) ∧ H F.c = some (LamX.CodeO F.c F.qual)) := fun _ _ _ hR hp b =>
  ⟨b _ _ hp.1 fun hc => by
    have h := hp.1
    unfold NdefX.FnO at h
    rcases a.mok _ _ hR _ hc with ⟨xs, e, _⟩ | ⟨kvs, e⟩ <;> (rw [h] at e; cases e), b _ _ hp.2 ((a.mok _ _ hR).code hp.2)⟩
def s_ask : Stmt := (defBody s_changed).getD 0 (.Pass ⟨0, 0, 0, 0⟩)
abbrev QA : Str := ("changed" : Str) ++ ".<locals>." ++ "ask"
abbrev NFA (cl : List (Str × Addr)) (c : Addr) : NdefX.NF := NdefX.NF.of s_ask "ask" QA cl c
theorem sc_ask : NdefX.NScope ["name", "stands"] ["name"] ["stands"] (C8.fnScope s_ask) := NdefX.nscope_by (by decide +kernel)
def spAsk : List (Option V) → Sp := fun ws vs H Q E => ∃ (i : Addr × List (Key × V)) (h : SD i.2), ws = [some (.ref i.1)] ∧ (asS i.1 i.2 h).sp vs H Q E
theorem nok_ask (cl : List (Str × Addr)) (c f : Addr) : NdefX.NOk P w K mg base CX0 1 f (NFA cl c) ["name"] ["stands"] spAsk := by
  refine NdefX.nok_of (k := 0) (N := ["name", "stands"]) sc_ask (fun doc pm ctv us hl => ?_) (fun ws vs H Q E h => ?_) (fun A outer s H vs ws Q E hr hf hc hl h => ?_)
  · match us, hl with
    | [u], _ => rfl
  · obtain ⟨i, hi, _, s, st, rfl, _⟩ := h
    rfl
  · obtain ⟨i, hi, rfl, s, st, rfl, _, _, hR, q⟩ := h
    have hR' : H i.1 = some (.dK i.2) := hR
    refine ⟨_, pss_one (ps_ret (pe_dget2 (hu_of hr) (pv 1) (pv 0) pe_int ⟨rfl, rfl, rfl, rfl⟩)), ?_⟩
    refine ⟨_, rfl, i.1, rfl, .inl ⟨_, .inl hR'⟩, _, rfl, _, DGet.k (k := Sum.inr s) hR', ?_⟩
    rw [num_get hi]
    exact q H (ButS.refl _ _) hR
end
end Aw

namespace Aw
open PySem L2
/-! ### a round: changed -/
def FrN (D : Addr) (H H' : Hp) : Prop := ∀ b o, H b = some o → (∀ ps, o ≠ .tbl ps) → b ≠ D → H' b = some o
structure RecAt (H : Hp) (R : Addr) (ws : List Str) (rv : Str → V) (rc : Str → T) (m : Nat) : Prop where
  at_ : H R = some (.dK (ws.map fun s => ((Sum.inr s : Key), rv s)))
  ok : ∀ s ∈ ws, TA H (rv s) (rc s) ∧ WF (rc s) ∧ dep (rc s) ≤ m ∧ Sz (rc s) ≤ 100000
theorem rec_val {ws : List Str} {rv : Str → V} {s : Str} (h : s ∈ ws) : valV (ws.map fun s => ((Sum.inr s : Key), rv s)) (Sum.inr s) = some (rv s) := by
  induction ws with
  | nil => cases h
  | cons a r ih =>
    by_cases e : a = s
    · subst e; exact valV_pos rfl
    · rw [List.map_cons, valV_neg (fun z => e (Sum.inr.inj z))]
      exact ih ((List.mem_cons.mp h).resolve_left (Ne.symm e))
theorem tabsN_ext {T : List NdefX.NTab} {H H' : Hp} (t : NdefX.TabsN T H) (e : ∀ b o, H b = some o → (∀ kvs, o ≠ .dK kvs) → H' b = some o) : NdefX.TabsN T H' := fun p hp => by
  obtain ⟨ps, h1, h2, h3⟩ := t p hp
  refine ⟨ps, e _ _ h1 (fun _ z => by cases z), h2, fun pos cv hc => ?_⟩
  obtain ⟨c, e1, e2⟩ := h3 pos cv hc
  exact ⟨c, e1, e _ _ e2 (fun _ z => by unfold LamX.CodeO at z; cases z)⟩
def NT (P : Addr) (X : Addr × Str) : List NdefX.NTab := [(P, fun _ _ => QA), (X.1, fun _ _ => X.2)]
def spChanged (PT : Addr) (XT : Addr × Str) (m : Nat) : Sp := fun vs H Q _ => ∃ (R D : Addr) (ws : List Str) (rv : Str → V) (rc : Str → T) (kvs : List (Key × V)), vs = [.ref R, .ref D] ∧ RecAt H R ws rv rc m ∧ H D = some (.dK kvs) ∧ SD kvs ∧ (∀ s ∈ ws, (valV kvs (Sum.inr s)).isSome = true) ∧ kvs.length ≤ 1000 ∧ R ≠ D ∧ NdefX.TabsN (NT PT XT) H ∧
  ∀ (b : Bool) (H' : Hp), FrN D H H' → H' D = some (.dK (rndK rc ws kvs)) → NdefX.TabsN (NT PT XT) H' → (b = false → ∀ z, num (rndK rc ws kvs) z = num kvs z) → (b = true → ∃ z, num (rndK rc ws kvs) z ≠ num kvs z) → Q (.bl b) H'
def spAnsS (m : Nat) (cl : List (Str × Addr)) : List (Option V) → Sp := fun ws vs H Q E => ∃ i : {i : Addr × List (Key × V) × Addr × Addr // SD i.2.1}, ws = [some (.ref i.1.1)] ∧
  spAns (asS i.1.1 i.1.2.1 i.2) i.1.2.2.1 (fun H => H i.1.2.2.1 = some (NdefX.FnO i.1.2.2.1 (NFA cl i.1.2.2.2)) ∧ H i.1.2.2.2 = some (LamX.CodeO i.1.2.2.2 QA)) m vs H Q E
section
variable {P : Program} {w : World} {K : PySem.W.Frag} {mg : Str → Option Value} {base : Heap} {f : Addr}
theorem ans_stands {cl : List (Str × Addr)} {ws : List (Option V)} {fr : List Str} (C : CellsB base cl ["stands"] ws) (TA' : TxtA mg) {an fg fl : Addr} {da dg dl : FuncData} (AN : AnD K mg an fg fl da dg dl) (m : Nat) : FnOk P w K mg base CX0 (1 + 1 + 2 * m) an da ["recipe", "ask"] (spAnsS m cl ws) := by
  refine FnOk_ex (fun _ _ _ _ _ z => by obtain ⟨_, _, _, rfl, _⟩ := z; rfl) fun i e => ?_
  refine ans_all (kc := 1) ((clo_nok (nok_ask cl i.1.2.2.2 i.1.2.2.1) C).imp fun vs H Q E q => ⟨(i.1.1, i.1.2.1), i.2, e, q⟩) (stab_nok _ _ (NFA cl i.1.2.2.2)) TA' AN m
theorem ok_changed {XT : Addr × Str} {c T an fg fl : Addr} {da dg dl : FuncData} {m : Nat} {oc : Value} {od ann : Option Addr} {osl : Array (Option Value)} {kV doc pm ct : Value}
    (l : K.lookup f = some ⟨oc, od, .func (PySem.W.fnOf "changed" "changed" (defArgs s_changed) (defBody s_changed) (defScope s_changed) .none kV doc pm ann (.ref c) ct), osl⟩) (hcd : PySem.W.codeIn K (.ref c) "changed" = true) (TA' : TxtA mg) (TB : LamX.TabB base mg c T) (zd : mg "dict" = none) (hne : XT.1 ≠ T)
    (AN : AnD K mg an fg fl da dg dl) :
    FnOk P w K mg base CX0 (1 + 1 + 2 * m + 1) f (PySem.W.fnOf "changed" "changed" (defArgs s_changed) (defBody s_changed) (defScope s_changed) .none kV doc pm ann (.ref c) ct) ["recipes", "stands"] (spChanged T XT m) := by
  refine fun_okC l hcd sc_changed (fun vs H Q E h => ?_) (fun A outer s H vs Q E hr h => ?_)
  · obtain ⟨R, D, ws, rv, rc, kvs, rfl, _⟩ := h
    rfl
  obtain ⟨R, D, ws, rv, rc, kvs, rfl, hR, hD, sd, hin, hk, nRD, hTab, q⟩ := h
  have nd := sc_changed.nd
  have hF : ∀ y ∈ (C8.fnScope s_ask).names, y.2 = .free → (defScope s_changed).names.lookup y.1 = some .cell ∨ (defScope s_changed).names.lookup y.1 = some .free := by decide +kernel
  have hF2 : ∀ y ∈ (["stands"] : List Str), (y, NameKind.free) ∈ (C8.fnScope s_ask).names := by decide +kernel
  refine ⟨_, pss_cons (NdefX.ps_ndefS (st := s_ask) (T := NT T XT) (nm := fun _ _ => QA) (i := 2) (name := "ask") rfl TB rfl List.mem_cons_self rfl (fun z hz e => by rcases List.mem_cons.mp hz with h | h; (rw [h]); exact absurd (by rw [← e, List.mem_singleton.mp h]) hne) hF rfl rfl rfl nd rfl (.inl rfl) (.inl rfl))
    (pss_cons (ps_set (i := 3) nd rfl (.inl rfl) (pe_callTy call_dictD (by rfl) zd (by decide +kernel) (pa_cons (pv 1) pa_nil)))
    (pss_cons (ps_lock (ps_for PassesOwn.never rfl (pi_keys (pv 0)) (pg_name (i := 4) nd rfl (.inl rfl))
      (pss_one (ps_dput (hu_of hr) (pv 1) (pv 4) (pe_up (E := E0) (sp := spAnsS m _) (fr := ["stands"]) (js := [1]) (fun B ws sub C => ans_stands (fr := ["stands"]) C TA' AN m) (fun _ => rfl) (fun ok => NdefX.Caps.made ok hF hF2 rfl) hr rfl AN.m AN.F.kp AN.b pass0
        (pa_cons (pe_dget (hu_of hr) (pv 0) (pv 4) (fun _ _ => rfl)) (pa_cons (pv 2) pa_nil))) rfl))))
    (pss_one (ps_ret (pe_cmpR (op_ne_dictI (Room.units0 hr)) (pv 1) (pv 3) (nomark _)))))), ?_⟩
  refine ⟨hTab, fun f1 c1 H1 e1 T1 hf1 ef1 ec1 => ?_⟩
  have hD1 : H1 D = some (.dK kvs) := e1 _ _ hD (fun _ z => by cases z)
  have hR1 := e1 _ _ hR.at_ (fun _ z => by cases z)
  refine ⟨_, rfl, D, kvs, rfl, .inl hD1, fun p hp => ?_⟩
  have pD : D ≠ p := ne_of_none hD1 hp
  have pR : R ≠ p := ne_of_none hR1 hp
  refine ⟨R, .dK (ws.map fun s => ((Sum.inr s : Key), rv s)), (by rw [upd_ne pR]; exact hR1), True.intro, fun od => ?_⟩
  refine ⟨_, rfl, R, od, rfl, .inl ⟨_, upd_same, for_it walk_keys (fun i σ H' => ∃ v4 : Option V, σ = [some (.ref R), some (.ref D), some (.ref f1), some (.ref p), v4] ∧ H' R = some (.frz od (.dK (ws.map fun s => ((Sum.inr s : Key), rv s)))) ∧ H' D = some (.dK (rndK rc (ws.take i) kvs)) ∧ H' p = some (.dK kvs) ∧
      (∀ b o, H1 b = some o → b ≠ D → b ≠ R → H' b = some o)) ⟨none, rfl, upd_same, ?_, ?_, ?_⟩ (fun i σ H' _ ⟨_, _, e, _⟩ => e) ?_ ?_⟩⟩
  · rw [upd_ne (Ne.symm nRD), upd_ne pD]; exact hD1
  · rw [upd_ne pR.symm]; exact upd_same
  · intro b o hb h1 h2
    rw [upd_ne h2, upd_ne (ne_of_none hb hp)]
    exact hb
  · rintro i x σ HA HB hi ⟨v4, rfl, eR, eD, ep, ex⟩ ⟨rfl, k, v, hkv, rfl⟩
    rw [List.length_map] at hi
    have hs : ws[i]? = some ws[i] := List.getElem?_eq_getElem hi
    rw [List.getElem?_map, hs] at hkv
    cases hkv
    have hm : ws[i] ∈ ws := List.getElem_mem hi
    obtain ⟨tv, wf, dp, sz⟩ := hR.ok _ hm
    have tk : ∀ s ∈ ws.take i, s ∈ ws := fun s h => List.mem_of_mem_take h
    obtain ⟨sd', ks'⟩ := rndK_ok (rc := rc) (l := ws.take i) sd (fun s h => (hR.ok s (tk s h)).2.1) (fun s h => hin s (tk s h))
    have len' : (rndK rc (ws.take i) kvs).length = kvs.length := by have := congrArg List.length ks'; simpa using this
    have fr1 : ∀ b o, H1 b = some o → (∀ kvs, o ≠ .dK kvs) → HB b = some o := fun b o hb hn => ex b o hb (fun z => hn kvs (by rw [z, hD1] at hb; exact (Option.some.inj hb).symm)) (fun z => hn _ (by rw [z, hR1] at hb; exact (Option.some.inj hb).symm))
    refine ⟨_, rfl, _, rfl, R, rv ws[i], rfl, .inl ⟨_, Sum.inr ws[i], .inr ⟨od, eR⟩, rfl, (rec_val hm).symm⟩, ?_⟩
    refine ⟨_, rfl, ⟨(D, rndK rc (ws.take i) kvs, f1, c1), sd'⟩, rfl, rv ws[i], rc ws[i], (), rfl, tv.mono (fun b xs hb => fr1 b _ (e1 b _ hb (fun _ z => by cases z)) (fun _ z => by cases z)), wf, nm_true _, dp, sz, True.intro, eD,
      ⟨fr1 _ _ ef1 (fun _ z => by unfold NdefX.FnO at z; cases z), fr1 _ _ ec1 (fun _ z => by unfold LamX.CodeO at z; cases z)⟩, fun H3 b3 R3 => ?_⟩
    have s3 := butF.mp b3
    refine ⟨_, rfl, _, rfl, D, _, rfl, DPut.k (k := Sum.inr ws[i]) (s3 _ _ eD) (Nat.lt_of_le_of_lt (by omega : (rndK rc (ws.take i) kvs).length ≤ 1000) (by decide)), _, rfl, ?_, ?_, ?_, fun b o hb h1 h2 => ?_⟩
    · rw [upd_ne nRD]; exact s3 _ _ eR
    · rw [upd_same, take_more hs, rndK_snoc]
      rfl
    · rw [upd_ne pD.symm]; exact s3 _ _ ep
    · rw [upd_ne h1]; exact s3 _ _ (ex b o hb h1 h2)
  · rintro σ HA ⟨v4, rfl, eR, eD, ep, ex⟩
    rw [List.length_map, List.take_length] at eD
    obtain ⟨sd', ks'⟩ := rndK_ok (rc := rc) (l := ws) sd (fun s h => (hR.ok s h).2.1) hin
    obtain ⟨a1, a2, a3, a4⟩ := all_same sd' sd ks'
    refine ⟨eR, ?_⟩
    refine ⟨_, rfl, _, rfl, D, p, _, _, rfl, rfl, (by rw [upd_ne (Ne.symm nRD)]; exact eD), (by rw [upd_ne pR.symm]; exact ep), a1, a2, ?_⟩
    refine q _ _ (fun b o hb hn hd => ?_) (by rw [upd_ne (Ne.symm nRD)]; exact eD) (tabsN_ext T1 fun b o hb hn => ?_) (fun z => a3 (by simpa using z)) (fun z => a4 (by simpa using z))
    · by_cases c : b = R
      · subst c
        rw [upd_same, ← hb, hR.at_]
      · rw [upd_ne c]
        exact ex b o (e1 b o hb hn) hd c
    · by_cases c : b = R
      · subst c
        rw [hR1] at hb
        exact absurd (Option.some.inj hb).symm (hn _)
      · rw [upd_ne c]
        exact ex b o hb (fun z => hn kvs (by rw [z, hD1] at hb; exact (Option.some.inj hb).symm)) c
end
end Aw

namespace Aw
open PySem L2
def spNamesU : Sp := fun vs H Q _ => ∃ (c m : Int), vs = [.int c, .int m] ∧ 0 ≤ m ∧ m ≤ 26 ∧ ∀ (l : Addr) (H' : Hp) (nms : List Str), Same H H' → H l = none → H' l = some (.lst (nms.map V.str)) → (nms.length : Int) = m → (∀ s ∈ nms, NameOk s) → nms.Nodup → Q (.ref l) H'
theorem let_inj {x y : Int} (x0 : 0 ≤ x) (x1 : x < 26) (y0 : 0 ≤ y) (y1 : y < 26) (e : atI LET x = atI LET y) : x = y := by
  have nd : LET.Nodup := by decide +kernel
  have ll : LET.length = 26 := by decide +kernel
  have a1 : atI LET ((x.toNat : Nat) : Int) = some LET[x.toNat] := atI_nat (List.getElem?_eq_getElem (by omega))
  have a2 : atI LET ((y.toNat : Nat) : Int) = some LET[y.toNat] := atI_nat (List.getElem?_eq_getElem (by omega))
  rw [show ((x.toNat : Nat) : Int) = x by omega] at a1
  rw [show ((y.toNat : Nat) : Int) = y by omega] at a2
  rw [a1, a2] at e
  have := (List.getElem_inj (h₀ := by omega) (h₁ := by omega) nd).mp (Option.some.inj e)
  omega
theorem names_nodup {nms : List Str} {A : Nat} {B : Int} (len : nms.length ≤ 26) (h : ∀ (i' : Nat) (s : Str), nms[i']? = some s → s.cps.toList[A]? = atI LET ((B + (i' : Int)) % 26)) : nms.Nodup := by
  refine List.pairwise_iff_getElem.mpr fun i j hi' hj hij e => ?_
  have hi : nms[i]? = some nms[i] := List.getElem?_eq_getElem hi'
  have hj2 : nms[j]? = some nms[i] := by rw [e]; exact List.getElem?_eq_getElem hj
  have a := h i _ hi
  have b := h j _ hj2
  rw [a] at b
  have := let_inj (Int.emod_nonneg _ (by decide)) (Int.emod_lt_of_pos _ (by decide)) (Int.emod_nonneg _ (by decide)) (Int.emod_lt_of_pos _ (by decide)) b
  omega
section
variable {P : Program} {w : World} {K : PySem.W.Frag} {mg : Str → Option Value} {base : Heap} {f : Addr} {fd : FuncData}
theorem ok_namesU (F : Fun K "_law_names" "_law_names" s_law_names f fd) (T : TxtL K mg) : FnOk P w K mg base CX0 1 f fd ["_law_cell", "_law_many"] spNamesU := by
  refine F.ok sc_law_names (fun vs H Q E h => ?_) (fun cdv A outer s H vs Q E hr h => ?_)
  · obtain ⟨c, m, rfl, _⟩ := h
    rfl
  obtain ⟨c, m, rfl, m0, m1, q⟩ := h
  have nd := sc_law_names.nd
  refine ⟨_, pss_cons (ps_set (i := 2) nd rfl (.inl rfl) pe_str)
    (pss_cons (ps_set (i := 3) nd rfl (.inl rfl) (pe_op op_add pe_int (pe_op op_mod (pv 0) pe_int)))
    (pss_cons (ps_set (i := 4) nd rfl (.inl rfl) (pe_op op_mod (pe_op op_fdiv (pv 0) pe_int) (pv 3)))
    (pss_cons (ps_set (i := 5) nd rfl (.inl rfl) (pe_lst pa_nil))
    (pss_cons (ps_for PassesOwn.never rfl (pi_range1 rfl T.range (pa_cons (pv 1) pa_nil)) (pg_name (i := 6) nd rfl (.inl rfl))
      (pss_cons (ps_set (i := 7) nd rfl (.inl rfl) pe_str)
      (pss_cons (ps_for PassesOwn.never rfl (pi_range1 rfl T.range (pa_cons (pv 3) pa_nil)) (pg_name (i := 8) nd rfl (.inl rfl))
        (pss_cons (ps_set (i := 9) nd rfl (.inl rfl) (pe_op op_add (pe_op op_mod (pe_op op_fdiv (pv 0) pe_int) pe_int) (pe_op op_mul pe_int (pv 8))))
        (pss_cons (ps_if (pt_cmpR op_eq (pv 8) (pv 4) (nomark _)) (pss_one (ps_set (i := 9) nd rfl (.inl rfl) (pe_op op_add (pv 9) (pv 6)))) pss_nil)
        (pss_one (ps_set (i := 7) nd rfl (.inl rfl) (pe_op op_add_str (pv 7) (pe_ix ix_str (pv 2) (pe_op op_mod (pv 9) pe_int) (fun _ _ => rfl))))))))
      (pss_one (ps_expr (pe_bm PySem.F.plainAttrs_list PySem.F.slot_list_append PySem.F.type_list_append mt_append (pv 5) (pa_cons (pv 7) pa_nil)))))))
    (pss_one (ps_ret (pv 5))))))), ?_⟩
  have hs0 : 0 ≤ c % 6 := Int.emod_nonneg _ (by decide)
  have hs1 : c % 6 < 6 := Int.emod_lt_of_pos _ (by decide)
  refine ⟨_, rfl, _, _, rfl, rfl, (by show (0 : Int) < 6; decide), _, _, rfl, rfl, ?_⟩
  refine ⟨_, rfl, _, _, rfl, rfl, ⟨by decide, by decide⟩, _, rfl, _, _, rfl, rfl, (by show 0 < 1 + c % 6; omega), ?_⟩
  refine ⟨(by show 0 ≤ sizeLine; decide), fun l hl => ?_⟩
  refine ⟨_, rfl, m, rfl, by omega, by omega, ?_⟩
  refine for_range (lo := 0) (n := m.toNat) (fun i σ H' => ∃ (nms : List Str) (v6 v7 v8 v9 : Option V), σ = [some (.int c), some (.int m), some (.str "abcdefghijklmnopqrstuvwxyz"), some (.int (1 + c % 6)), some (.int (c / 6 % (1 + c % 6))), some (.ref l), v6, v7, v8, v9] ∧
    Same H H' ∧ H' l = some (.lst (nms.map V.str)) ∧ nms.length = i ∧ (∀ s ∈ nms, NameOk s) ∧ ∀ (i' : Nat) (s : Str), nms[i']? = some s → s.cps.toList[(c / 6 % (1 + c % 6)).toNat]? = atI LET ((c / 36 % 26 + 5 * (c / 6 % (1 + c % 6)) + (i' : Int)) % 26)) ⟨[], none, none, none, none, rfl, same_new hl _, upd_same, rfl, (fun s hs => by cases hs), fun i' s h => by simp at h⟩ ?_ ?_
  · rintro i σ H1 hi ⟨nms, v6, v7, v8, v9, rfl, s1, e1, hlen, hok, hat⟩
    refine ⟨_, rfl, 1 + c % 6, rfl, by omega, by omega, ?_⟩
    refine for_range (lo := 0) (n := (1 + c % 6).toNat) (fun j σ H' => ∃ (z : Str) (v8 v9 : Option V), σ = [some (.int c), some (.int m), some (.str "abcdefghijklmnopqrstuvwxyz"), some (.int (1 + c % 6)), some (.int (c / 6 % (1 + c % 6))), some (.ref l), some (.int (0 + (i : Int))), some (.str z), v8, v9] ∧
      H' = H1 ∧ z.length = j ∧ (∀ x ∈ z.cps.toList, x ∈ LET) ∧ (c / 6 % (1 + c % 6) < (j : Int) → z.cps.toList[(c / 6 % (1 + c % 6)).toNat]? = atI LET ((c / 36 % 26 + 5 * (c / 6 % (1 + c % 6)) + (i : Int)) % 26))) ⟨Str.empty, _, _, rfl, rfl, rfl, (fun x hx => by cases hx), fun h => absurd h (by have := Int.emod_nonneg (c / 6) (show 1 + c % 6 ≠ 0 by omega); omega)⟩ ?_ ?_
    · rintro j σ H2 hj ⟨z, v8, v9, rfl, rfl, hz, hl', hza⟩
      have zl : z.cps.toList.length = z.length := by rw [Array.length_toList]; rfl
      have ap : ∀ ch : Nat, (z ++ sg1 ch).cps.toList = z.cps.toList ++ [ch] := fun ch => by show (z.cps ++ #[ch]).toList = _; rw [Array.toList_append]
      refine ⟨_, rfl, _, _, rfl, rfl, ⟨by decide, by decide⟩, _, _, rfl, rfl, (by show (0 : Int) < 26; decide), _, rfl, _, _, rfl, rfl, .inl ⟨by decide, by decide⟩, _, _, rfl, rfl, ?_⟩
      refine ⟨_, rfl, _, rfl, rfl, _, rfl, ?_⟩
      have hz6 : (j : Int) < 6 := by omega
      refine ite2 (fun hd => ?_) (fun hd => ?_)
      · refine ⟨_, rfl, _, rfl, _, _, rfl, rfl, ?_⟩
        obtain ⟨ch, hc, ec⟩ := let_at (n := (c / 36 % 26 + 5 * (0 + (j : Int)) + (0 + (i : Int))) % 26) (Int.emod_nonneg _ (by decide)) (Int.emod_lt_of_pos _ (by decide))
        refine ⟨_, rfl, _, rfl, _, rfl, _, _, rfl, rfl, (by show (0 : Int) < 26; decide), _, _, ch, rfl, rfl, (by decide +kernel), ec, z, sg1 ch, rfl, rfl, big (by rw [len_sg1]; omega), ?_⟩
        have ej : (0 + (j : Int)) = c / 6 % (1 + c % 6) := V.int.inj (of_decide_eq_true hd)
        refine ⟨z ++ sg1 ch, _, _, rfl, rfl, by rw [len_app, len_sg1, hz], mem_app1 hl' hc, fun _ => ?_⟩
        rw [ap, ← ej, List.getElem?_append_right (by rw [zl, hz]; omega), show ((0 + (j : Int)).toNat - z.cps.toList.length) = 0 by rw [zl, hz]; omega]
        show some ch = _
        rw [← ec]
        show atI LET _ = atI LET _
        rw [show (0 + (i : Int)) = (i : Int) by omega]
      · obtain ⟨ch, hc, ec⟩ := let_at (n := (c / 36 % 26 + 5 * (0 + (j : Int))) % 26) (Int.emod_nonneg _ (by decide)) (Int.emod_lt_of_pos _ (by decide))
        refine ⟨_, rfl, _, rfl, _, rfl, _, _, rfl, rfl, (by show (0 : Int) < 26; decide), _, _, ch, rfl, rfl, (by decide +kernel), ec, z, sg1 ch, rfl, rfl, big (by rw [len_sg1]; omega), ?_⟩
        have ej : (0 + (j : Int)) ≠ c / 6 % (1 + c % 6) := fun e => hd (decide_eq_true (by rw [e]))
        have a0 := Int.emod_nonneg (c / 6) (show 1 + c % 6 ≠ 0 by omega)
        refine ⟨z ++ sg1 ch, _, _, rfl, rfl, by rw [len_app, len_sg1, hz], mem_app1 hl' hc, fun h => ?_⟩
        rw [ap, List.getElem?_append_left (by rw [zl, hz]; omega)]
        exact hza (by omega)
    · rintro σ H2 ⟨z, v8, v9, rfl, rfl, hz, hl', hza⟩
      refine ⟨_, rfl, .inl ⟨rfl, _, SqL.of e1⟩, _, rfl, l, _, _, rfl, rfl, e1, small1000 (by rw [List.length_map]; omega), ?_⟩
      refine ⟨nms ++ [z], _, _, _, _, rfl, same_upd s1 hl _, (by rw [upd_same, List.map_append]; rfl), by rw [List.length_append, List.length_singleton, hlen], fun s hs => ?_, fun i' s hs => ?_⟩
      · rcases List.mem_append.mp hs with q | q
        · exact hok s q
        · rw [List.mem_singleton.mp q]
          exact nameOk_of (by omega) (by omega) hl'
      · by_cases lt : i' < nms.length
        · rw [List.getElem?_append_left lt] at hs
          exact hat i' s hs
        · rw [List.getElem?_append_right (by omega)] at hs
          have e0 : i' = nms.length := by
            have := (List.getElem?_eq_some_iff.mp hs).1
            simp at this
            omega
          subst e0
          rw [Nat.sub_self] at hs
          cases hs
          rw [hlen]
          refine hza ?_
          have a1 := Int.emod_lt_of_pos (c / 6) (show 0 < 1 + c % 6 by omega)
          omega
  · rintro σ H1 ⟨nms, v6, v7, v8, v9, rfl, s1, e1, hlen, hok, hat⟩
    exact ⟨_, rfl, q l H1 nms s1 hl e1 (by omega) hok (names_nodup (by omega) hat)⟩
end
end Aw

namespace Aw
open PySem L2
/-! ### least -/
theorem val_none {g : Str → V} {l : List Str} {s : Str} (h : s ∉ l) : valV (l.map fun z => ((Sum.inr z : Key), g z)) (Sum.inr s) = none := by
  induction l with
  | nil => rfl
  | cons a r ih =>
    rw [List.map_cons, valV_neg (fun z => h (by rw [← Sum.inr.inj z]; exact List.mem_cons_self))]
    exact ih fun z => h (List.mem_cons_of_mem _ z)
theorem not_take {ws : List Str} (nd : ws.Nodup) {i : Nat} {s : Str} (hi : ws[i]? = some s) : s ∉ ws.take i := fun h => by
  obtain ⟨j, hj, e⟩ := List.mem_take_iff_getElem.mp h
  have hlt := (List.getElem?_eq_some_iff.mp hi).1
  have e2 := (List.getElem?_eq_some_iff.mp hi).2
  have := (List.getElem_inj (h₀ := by omega) (h₁ := hlt) nd).mp (e.trans e2.symm)
  omega
theorem SD.put' {kvs : List (Key × V)} (d : SD kvs) {s : Str} {v : Int} (h0 : 0 ≤ v) (h1 : v ≤ 30) : SD (putK kvs (Sum.inr s) (.int v)) := by
  cases e : valV kvs (Sum.inr s) with
  | some u => exact d.put (by rw [e]; rfl) h0 h1
  | none =>
    rw [putK_new _ e]
    refine ⟨?_, fun p hp => ?_⟩
    · rw [List.map_append, List.nodup_append]
      refine ⟨d.nd, by simp, fun a ha b hb z => ?_⟩
      have hb' : b = Sum.inr s := by simpa using hb
      have := key_some.mpr ha
      rw [z, hb', e] at this
      cases this
    · rcases List.mem_append.mp hp with q | q
      · exact d.ok p q
      · rw [List.mem_singleton.mp q]; exact ⟨s, v, rfl, h0, h1⟩
def FrX (H H' : Hp) : Prop := ∀ b o, H b = some o → (∀ ps, o ≠ .tbl ps) → H' b = some o
def at0 (ws : List Str) (wk : List (Key × V)) (s : Str) : Int := if s ∈ ws then 0 else num wk s
def rcG (tx : Str → Str) (s : Str) : T := (readM (tx s)).getD (.num 0)
def spLeastX (N : Addr) (PT : Addr) (XT : Addr × Str) : Sp := fun vs H Q E => ∃ (W D : Addr) (wk : List (Key × V)) (ws : List Str) (tx : Str → Str), vs = [.ref W, .ref D] ∧ H W = some (.dK wk) ∧ SD wk ∧ wk.length ≤ 100 ∧ H D = some (.dK (ws.map fun s => ((Sum.inr s : Key), V.str (tx s)))) ∧ ws.Nodup ∧ ws.length ≤ 100 ∧
  (∀ s ∈ ws, (tx s).length ≤ 1000 ∧ ∀ t, readM (tx s) = some t → WF t ∧ dep t ≤ 2 ∧ Sz t ≤ 100000) ∧ NdefX.TabsN (NT PT XT) H ∧ ((∃ s ∈ ws, readM (tx s) = none) → ∀ H', E (.ref N) none H') ∧
  ((∀ s ∈ ws, (readM (tx s)).isSome = true) → ∀ (p : Addr) (x : Str → Int) (H' : Hp), FrX H H' → NdefX.TabsN (NT PT XT) H' → (∀ b o, H b = some o → (∀ ps, o ≠ .tbl ps) → b ≠ p) → H' p = some (.dK (ws.map fun s => ((Sum.inr s : Key), V.int (x s)))) → Lfp ws (rcG tx) (at0 ws wk) x → Q (.ref p) H')
section
variable {P : Program} {w : World} {K : PySem.W.Frag} {mg : Str → Option Value} {base : Heap} {f : Addr} {fd : FuncData} {N : Addr}
theorem ok_least {XT : Addr × Str} {T fr fc : Addr} {dr dc : FuncData} (F : Fun K "least" "least" s_least f fd) (zd : mg "dict" = none)
    (Rd : FnOk P w K mg base (L2.CX P w) 27 fr dr ["text"] (spRead N)) (bR : Binds K dr ["text"] []) (kR : PySem.W.keepIn K (.ref fr) = true) (mR : mg "read" = some (.ref fr))
    (Ch : FnOk P w K mg base CX0 (1 + 1 + 2 * 2 + 1) fc dc ["recipes", "stands"] (spChanged T XT 2)) (bC : Binds K dc ["recipes", "stands"] []) (kC : PySem.W.keepIn K (.ref fc) = true) (mC : mg "changed" = some (.ref fc)) :
    FnOk P w K mg base (L2.CX P w) 28 f fd ["wells", "works"] (spLeastX N T XT) := by
  refine F.okX sc_least (fun vs H Q E h => ?_) (fun cdv A outer s H vs Q E hr h => ?_)
  · obtain ⟨W, D, wk, ws, tx, rfl, _⟩ := h
    rfl
  obtain ⟨W, D, wk, ws, tx, rfl, hW, sdW, lW, hD, nd', lws, hrd0, hTab, qE, qG⟩ := h
  obtain ⟨rc, hrc⟩ : ∃ rc : Str → Aw.T, rc = rcG tx := ⟨_, rfl⟩
  rw [← hrc] at qG
  have nd := sc_least.nd
  have hr7 : Room (1 + 1 + 2 * 2 + 1) _ := hr.mono (by decide)
  refine ⟨_, pss_cons (ps_lock (ps_setDcX (Ew := E) (j := 3) (ow := [("name", 2)]) (gt := gName 2) rfl nd rfl rfl (sw_dict rfl rfl rfl (by decide +kernel)) rfl rfl (takes_of rfl rfl rfl rfl) (pi_keys (pv 1)) (blkOk_by (N := ["wells", "works", "name", "recipes", "stands"]) (sc := defScope s_least) (by decide +kernel))
      (fun _ _ _ _ _ => pg_name (i := 2) nd rfl (.inl rfl)) (fun _ _ _ _ _ => pts_nil) (fun _ _ _ _ _ => pv 2) (fun _ _ _ _ _ => pe_call (E := E) Rd hr rfl mR kR bR .nil passB (pa_cons (pe_dget (hu_of hr) (pv 1) (pv 2) (fun _ _ => rfl)) pa_nil))))
    (pss_cons (ps_set (i := 4) nd rfl (.inr rfl) (pe_callTy call_dictD (by rfl) zd (by decide +kernel) (pa_cons (pv 0) pa_nil)))
    (pss_cons (ps_lock (ps_for (passes_of rfl) rfl (pi_keys (pv 1)) (pg_name (i := 2) nd rfl (.inl rfl)) (pss_one (ps_dput (hu_of hr) (pv 4) (pv 2) pe_int rfl))))
    (pss_cons (ps_while (passes_of rfl) (pt_val (pe_call Ch hr7 rfl mC kC bC .nil pass0 (pa_cons (pv 3) (pa_cons (pv 4) pa_nil)))) (pss_one ps_pass))
    (pss_one (ps_ret (pe_lock (pe_dc (own := [("name", 2)]) (g := gName 2) rfl nd (pi_keys (pv 1)) (blkOk_by (N := ["wells", "works", "name", "recipes", "stands"]) (sc := defScope s_least) (by decide +kernel))
      (fun _ _ _ _ _ => pg_name (i := 2) nd rfl (.inl rfl)) (fun _ _ _ _ _ => pts_nil) (fun _ _ _ _ _ => pv 2) (fun _ _ _ _ _ => pe_dget (hu_of hr) (pv 4) (pv 2) (fun _ _ => rfl))))))))), ?_⟩
  obtain ⟨wd, hwd⟩ : ∃ wd, wd = ws.map fun s => ((Sum.inr s : Key), V.str (tx s)) := ⟨_, rfl⟩
  have wdl : wd.length = ws.length := by rw [hwd, List.length_map]
  have wdi : ∀ {i : Nat} {k : Key} {v : V}, i < ws.length → wd[i]? = some (k, v) → ∃ s, ws[i]? = some s ∧ k = Sum.inr s ∧ v = .str (tx s) := fun {i k v} hi e => by
    rw [hwd, List.getElem?_map, List.getElem?_eq_getElem hi] at e
    have e' := Option.some.inj e
    exact ⟨ws[i], List.getElem?_eq_getElem hi, (Prod.mk.inj e').1.symm, (Prod.mk.inj e').2.symm⟩
  rw [← hwd] at hD
  refine ⟨D, .dK wd, hD, True.intro, fun od => ?_⟩
  refine ⟨_, rfl, D, od, rfl, .inl ⟨wd, upd_same, fun R hR => ?_⟩⟩
  have hDR : D ≠ R := ne_of_none upd_same hR
  have hR0 : H R = none := by rw [← hR, upd_ne hDR.symm]
  refine walk_gen walk_keys (fun i H' => H' D = some (.frz od (.dK wd)) ∧ (∃ rv : Str → V, H' R = some (.dK ((ws.take i).map fun s => ((Sum.inr s : Key), rv s))) ∧ ∀ s ∈ ws.take i, readM (tx s) = some (rc s) ∧ TA H' (rv s) (rc s)) ∧ ∀ b o, H b = some o → b ≠ D → H' b = some o)
    ⟨by rw [upd_ne hDR]; exact upd_same, ⟨fun _ => .non, upd_same, fun s hs => by cases hs⟩, fun b o hb hn => by rw [upd_ne (ne_of_none hb hR0), upd_ne hn]; exact hb⟩ (fun i H' _ h => h.1) ?_ ?_
  · rintro i x HA HB hi ⟨eD, ⟨rv, eR, tR⟩, ex⟩ ⟨rfl, k, v, hkv, rfl⟩
    rw [wdl] at hi
    obtain ⟨s, hs, rfl, rfl⟩ := wdi hi hkv
    have hm : s ∈ ws := List.mem_of_getElem? hs
    obtain ⟨lr, _⟩ := hrd0 s hm
    refine ⟨rfl, ?_⟩
    refine ⟨_, rfl, _, rfl, _, rfl, D, .str (tx s), rfl, .inl ⟨wd, Sum.inr s, .inr ⟨od, eD⟩, rfl, by rw [hwd]; exact (rec_val (rv := fun s => V.str (tx s)) hm).symm⟩, ?_⟩
    refine ⟨tx s, rfl, big (by omega), fun t et v H3 s3 ta => ?_, fun en _ _ => qE ⟨s, hm, en⟩ _⟩
    have e9 : t = rc s := by rw [hrc]; unfold rcG; rw [et]; rfl
    subst e9
    have nt := not_take nd' hs
    refine ⟨_, Sum.inr s, rfl, s3 _ _ eR, ?_, ?_, ⟨fun z => if z = s then v else rv z, ?_, fun z hz => ?_⟩, fun b o hb hn => ?_⟩
    · rw [List.length_map, List.length_take]; exact small1000 (by omega)
    · rw [upd_ne hDR]; exact s3 _ _ eD
    · rw [upd_same, putK_new _ (val_none nt), take_more hs, List.map_append]
      congr 2
      congr 1
      · refine List.map_congr_left fun z hz => ?_
        show ((Sum.inr z : Key), rv z) = (Sum.inr z, if z = s then v else rv z)
        rw [if_neg (fun e : z = s => nt (by rw [← e]; exact hz))]
      · simp
    · have tu : Tups HB (upd H3 R (.dK (putK ((ws.take i).map fun s => ((Sum.inr s : Key), rv s)) (Sum.inr s) v))) := fun b xs hb => by
        rw [upd_ne (fun e => by rw [e, eR] at hb; cases hb)]
        exact s3 _ _ hb
      have tu3 : Tups H3 (upd H3 R (.dK (putK ((ws.take i).map fun s => ((Sum.inr s : Key), rv s)) (Sum.inr s) v))) := fun b xs hb => by
        rw [upd_ne (fun e => by rw [e, s3 _ _ eR] at hb; cases hb)]
        exact hb
      rw [take_more hs] at hz
      show readM (tx z) = some (rc z) ∧ TA _ (if z = s then v else rv z) (rc z)
      by_cases c : z = s
      · rw [if_pos c, c]
        exact ⟨et, ta.mono tu3⟩
      · rw [if_neg c]
        have o9 := tR z ((List.mem_append.mp hz).resolve_right fun w => c (List.mem_singleton.mp w))
        exact ⟨o9.1, o9.2.mono tu⟩
    · rw [upd_ne (ne_of_none hb hR0)]
      exact s3 _ _ (ex b o hb hn)
  · rintro HA ⟨eD, ⟨rv, eR, tR⟩, ex⟩
    rw [wdl, List.take_length] at eR tR
    have hrd : ∀ s ∈ ws, readM (tx s) = some (rc s) ∧ (tx s).length ≤ 1000 ∧ WF (rc s) ∧ dep (rc s) ≤ 2 ∧ Sz (rc s) ≤ 100000 := fun s hs => ⟨(tR s hs).1, (hrd0 s hs).1, (hrd0 s hs).2 _ (tR s hs).1⟩
    have tR : ∀ s ∈ ws, TA HA (rv s) (rc s) := fun s hs => (tR s hs).2
    have q := qG fun s hs => by rw [(hrd s hs).1]; rfl
    refine ⟨eD, ?_⟩
    have sB : Same H (upd HA D (.dK wd)) := fun b o hb => by
      by_cases c : b = D
      · subst c; rw [upd_same, ← hb, hD]
      · rw [upd_ne c]; exact ex b o hb c
    have eRB : (upd HA D (.dK wd)) R = some (.dK (ws.map fun s => ((Sum.inr s : Key), rv s))) := by rw [upd_ne hDR.symm]; exact eR
    have tRB : ∀ s ∈ ws, TA (upd HA D (.dK wd)) (rv s) (rc s) := fun s hs => (tR s hs).mono fun b xs hb => by
      rw [upd_ne (fun e => by rw [e, eD] at hb; cases hb)]
      exact hb
    have eDB : (upd HA D (.dK wd)) D = some (.dK wd) := upd_same
    revert sB eRB tRB eDB
    generalize upd HA D (.dK wd) = HB
    intro sB eRB tRB eDB
    refine ⟨_, rfl, W, wk, rfl, .inl (sB _ _ hW), fun S hS => ?_⟩
    have nDS : D ≠ S := ne_of_none eDB hS
    have nRS : R ≠ S := ne_of_none eRB hS
    refine ⟨D, .dK wd, by rw [upd_ne nDS]; exact eDB, True.intro, fun od2 => ?_⟩
    refine ⟨_, rfl, D, od2, rfl, .inl ⟨wd, upd_same, for_it walk_keys (fun i σ H' => ∃ (v2 : Option V) (cur : List (Key × V)), σ = [some (.ref W), some (.ref D), v2, some (.ref R), some (.ref S)] ∧ H' D = some (.frz od2 (.dK wd)) ∧ H' S = some (.dK cur) ∧ SD cur ∧ cur.length ≤ 100 + i ∧ (∀ z, num cur z = at0 (ws.take i) wk z) ∧
      (∀ s ∈ ws.take i, (valV cur (Sum.inr s)).isSome = true) ∧ ∀ b o, HB b = some o → b ≠ D → H' b = some o) ⟨_, wk, rfl, upd_same, by rw [upd_ne nDS.symm]; exact upd_same, sdW, by omega, fun z => ?_, (fun s hs => by cases hs), fun b o hb hn => ?_⟩ (fun i σ H' _ ⟨_, _, _, e, _⟩ => e) ?_ ?_⟩⟩
    · unfold at0
      rw [if_neg (by simp)]
    · rw [upd_ne hn, upd_ne (ne_of_none hb hS)]
      exact hb
    · rintro i x σ HC HD hi ⟨v2, cur, rfl, eD2, eS, sdc, lc, nc, kc, ex2⟩ ⟨rfl, k, v, hkv, rfl⟩
      rw [wdl] at hi
      obtain ⟨s, hs, rfl, rfl⟩ := wdi hi hkv
      refine ⟨_, rfl, _, rfl, S, _, rfl, DPut.k (k := Sum.inr s) eS (Nat.lt_of_le_of_lt (by omega : cur.length ≤ 1000) (by decide)), _, _, rfl, ?_, upd_same, sdc.put' (by decide) (by decide), ?_, fun z => ?_, fun z hz => ?_, fun b o hb hn => ?_⟩
      · rw [upd_ne nDS]; exact eD2
      · exact Nat.le_trans (length_putK _ _ _) (by omega)
      · rw [num_put]
        unfold put1 at0
        rw [take_more hs]
        by_cases c : z = s
        · rw [if_pos c, if_pos (by rw [c]; simp)]
        · have := nc z
          unfold at0 at this
          rw [if_neg c, this]
          by_cases c2 : z ∈ ws.take i
          · rw [if_pos c2, if_pos (List.mem_append_left _ c2)]
          · rw [if_neg c2, if_neg (fun h => (List.mem_append.mp h).elim c2 fun w => c (List.mem_singleton.mp w))]
      · rw [take_more hs] at hz
        rw [valV_put]
        split
        · rfl
        · next c => exact kc z ((List.mem_append.mp hz).resolve_right fun w => c (by rw [List.mem_singleton.mp w]))
      · rw [upd_ne (ne_of_none hb hS)]
        exact ex2 b o hb hn
    · rintro σ HC ⟨v2, cur, rfl, eD2, eS, sdc, lc, nc, kc, ex2⟩
      rw [wdl, List.take_length] at kc
      have nc' : ∀ z, num cur z = at0 ws wk z := fun z => by have := nc z; rwa [wdl, List.take_length] at this
      have ncf : num cur = at0 ws wk := funext nc'
      refine ⟨eD2, ?_⟩
      have wfa : ∀ s ∈ ws, WF (rc s) := fun s h => (hrd s h).2.2.1
      have sC : ∀ b o, HB b = some o → (upd HC D (.dK wd)) b = some o := fun b o hb => by
        by_cases c : b = D
        · subst c; rw [upd_same, ← hb, eDB]
        · rw [upd_ne c]; exact ex2 b o hb c
      refine ⟨fun m σ H' => ∃ (v2 : Option V) (kvs : List (Key × V)), σ = [some (.ref W), some (.ref D), v2, some (.ref R), some (.ref S)] ∧ gap ws (num kvs) = m ∧ H' S = some (.dK kvs) ∧ SD kvs ∧ (∀ s ∈ ws, (valV kvs (Sum.inr s)).isSome = true) ∧ kvs.length ≤ 300 ∧ Up ws rc (at0 ws wk) (num kvs) ∧ RecAt H' R ws rv rc 2 ∧ NdefX.TabsN (NT T XT) H' ∧ H' D = some (.dK wd) ∧ FrX H H',
        ⟨_, _, cur, rfl, rfl, by rw [upd_ne nDS.symm]; exact eS, sdc, kc, by omega, ?_, ⟨sC _ _ eRB, fun s hs => ⟨(tRB s hs).mono (fun b xs hb => sC _ _ hb), (hrd s hs).2.2⟩⟩, (hTab.ext sB).ext sC, upd_same, fun b o hb _ => sC _ _ (sB _ _ hb)⟩, ?_⟩
      · rw [ncf]
        refine .start wfa (fun s => ?_) (fun s hs => by unfold at0; rw [if_pos hs])
        unfold at0
        split
        · exact ⟨by decide, by decide⟩
        · exact sdW.rng s
      · rintro m σ HE ⟨v2', kvs, rfl, hm, eSE, sdE, kE, lE, uE, rE, tE, eDE, frE⟩
        refine ⟨_, rfl, _, rfl, R, S, ws, rv, rc, kvs, rfl, rE, eSE, sdE, kE, by omega, nRS, tE, fun b H2 fr eS2 T2 hf ht => ?_⟩
        refine ⟨b, rfl, ?_⟩
        obtain ⟨u2, le2⟩ := uE.rnd wfa ws fun _ h => h
        obtain ⟨sd2, ks2⟩ := rndK_ok (rc := rc) sdE wfa kE
        have l2 : (rndK rc ws kvs).length = kvs.length := by have := congrArg List.length ks2; simpa using this
        have rE2 : RecAt H2 R ws rv rc 2 := ⟨fr _ _ rE.at_ (fun _ z => by cases z) nRS, fun s hs => ⟨(rE.ok s hs).1.mono (fun b xs hb => fr _ _ hb (fun _ z => by cases z) (fun e => by rw [e, eSE] at hb; cases hb)), (rE.ok s hs).2⟩⟩
        have fr2 : FrX H H2 := fun b o hb hn => fr _ _ (frE b o hb hn) hn (fun e => by
          subst e
          have := sB _ _ hb
          rw [hS] at this
          cases this)
        have eD2' : H2 D = some (.dK wd) := fr _ _ eDE (fun _ z => by cases z) nDS
        cases b with
        | true =>
          rw [if_pos rfl]
          obtain ⟨z, hz⟩ := ht rfl
          rw [num_rnd] at hz
          have hzw : z ∈ ws := by
            by_cases c : z ∈ ws
            · exact c
            · exact absurd ((u2.out z c).trans (uE.out z c).symm) hz
          have lt : gap ws (num (rndK rc ws kvs)) < gap ws (num kvs) := by
            rw [num_rnd]
            exact gap_lt le2 (fun z => (u2.rng z).2) hzw (by have := le2 z; omega)
          refine ⟨fun σ' H' => σ' = [some (.ref W), some (.ref D), v2', some (.ref R), some (.ref S)] ∧ H' = H2, ?_, rfl, rfl⟩
          rintro σ' H' ⟨rfl, rfl⟩
          exact ⟨gap ws (num (rndK rc ws kvs)), by omega, _, _, rfl, rfl, eS2, sd2, (fun s hs => key_some.mpr (by rw [ks2]; exact key_some.mp (kE s hs))), by omega, by rw [num_rnd]; exact u2, rE2, T2, eD2', fr2⟩
        | false =>
          rw [if_neg (by decide)]
          have same := hf rfl
          have lfp : Lfp ws rc (at0 ws wk) (num kvs) := uE.lfp wfa fun z => by rw [← num_rnd]; exact same z
          have k2 : ∀ s ∈ ws, valV (rndK rc ws kvs) (Sum.inr s) = some (.int (num kvs s)) := fun s hs => by
            obtain ⟨v, hv⟩ := Option.isSome_iff_exists.mp (key_some.mpr (by rw [ks2]; exact key_some.mp (kE s hs)))
            rw [hv, sd2.val hv, same s]
          refine ⟨D, .dK wd, eD2', True.intro, fun od3 => ?_⟩
          refine ⟨_, rfl, D, od3, rfl, .inl ⟨wd, upd_same, fun p hp => ?_⟩⟩
          have hDp : D ≠ p := ne_of_none upd_same hp
          have hp2 : H2 p = none := by rw [← hp, upd_ne hDp.symm]
          have nSp : S ≠ p := ne_of_none eS2 hp2
          refine walk_gen walk_keys (fun i H' => H' D = some (.frz od3 (.dK wd)) ∧ H' p = some (.dK ((ws.take i).map fun s => ((Sum.inr s : Key), V.int (num kvs s)))) ∧ ∀ b o, H2 b = some o → b ≠ D → H' b = some o)
            ⟨by rw [upd_ne hDp]; exact upd_same, upd_same, fun b o hb hn => by rw [upd_ne (ne_of_none hb hp2), upd_ne hn]; exact hb⟩ (fun i H' _ h => h.1) ?_ ?_
          · rintro i x HF HG hi ⟨eDF, ep, ex3⟩ ⟨rfl, k, v, hkv, rfl⟩
            rw [wdl] at hi
            obtain ⟨s, hs, rfl, rfl⟩ := wdi hi hkv
            have hm' : s ∈ ws := List.mem_of_getElem? hs
            refine ⟨rfl, ?_⟩
            refine ⟨_, rfl, _, rfl, _, rfl, S, .int (num kvs s), rfl, by rw [← k2 s hm']; exact DGet.k (k := Sum.inr s) (ex3 _ _ eS2 nDS.symm), ?_⟩
            refine ⟨_, Sum.inr s, rfl, ep, ?_, ?_, ?_, fun b o hb hn => ?_⟩
            · rw [List.length_map, List.length_take]; exact small1000 (by omega)
            · rw [upd_ne hDp]; exact eDF
            · rw [upd_same, putK_new _ (val_none (g := fun s => V.int (num kvs s)) (not_take nd' hs)), take_more hs, List.map_append]
              rfl
            · rw [upd_ne (ne_of_none hb hp2)]
              exact ex3 b o hb hn
          · rintro HF ⟨eDF, ep, ex3⟩
            rw [wdl, List.take_length] at ep
            refine ⟨eDF, ?_⟩
            have s3 : Same H2 (upd HF D (.dK wd)) := fun b o hb => by
              by_cases c : b = D
              · subst c; rw [upd_same, ← hb, eD2']
              · rw [upd_ne c]; exact ex3 b o hb c
            have hp0 : ∀ b o, H b = some o → (∀ ps, o ≠ .tbl ps) → b ≠ p := fun b o hb hn => ne_of_none (fr2 b o hb hn) hp2
            exact q p (num kvs) _ (fun b o hb hn => s3 _ _ (fr2 b o hb hn)) (T2.ext s3) hp0 (by rw [upd_ne hDp.symm]; exact ep) lfp
end
end Aw

namespace Aw
open PySem L2
/-! ### the numbers that a pair gives -/
def atF (nms : List Str) (ns : List Int) (s : Str) : Int := ns.getD (nms.findIdx fun z => decide (z = s)) 0
structure FI where
  NL : Addr
  ML : Addr
  nms : List Str
  ns : List Int
  hl : nms.length = ns.length
  rng : ∀ x ∈ ns, 0 ≤ x ∧ x ≤ 30
theorem atF_at {nms : List Str} {ns : List Int} {s : Str} (hl : nms.length = ns.length) (hs : s ∈ nms) : ∃ (j : Nat) (hj : j < nms.length), nms[j]? = some s ∧ ns[j]? = some (atF nms ns s) ∧ ∀ (m : Nat) (z : Str), m < j → nms[m]? = some z → z ≠ s := by
  have lt : nms.findIdx (fun z => decide (z = s)) < nms.length := List.findIdx_lt_length_of_exists ⟨s, hs, by simp⟩
  refine ⟨_, lt, ?_, ?_, fun m z hm hz => ?_⟩
  · have := List.findIdx_getElem (w := lt)
    rw [List.getElem?_eq_getElem lt]
    rw [of_decide_eq_true this]
  · unfold atF
    rw [List.getD_eq_getElem?_getD, List.getElem?_eq_getElem (by omega)]
    rfl
  · have := List.not_of_lt_findIdx hm
    rw [List.getElem?_eq_getElem (by omega)] at hz
    intro e
    have e2 := Option.some.inj hz
    rw [e] at e2
    exact absurd e2 (of_decide_eq_false this)
theorem atF_rng {nms : List Str} {ns : List Int} (rng : ∀ x ∈ ns, 0 ≤ x ∧ x ≤ 30) (s : Str) : 0 ≤ atF nms ns s ∧ atF nms ns s ≤ 30 := by
  unfold atF
  rw [List.getD_eq_getElem?_getD]
  cases e : ns[nms.findIdx fun z => decide (z = s)]? with
  | none => exact ⟨by decide, by decide⟩
  | some v => exact rng v (List.mem_of_getElem? e)
def asF (i : FI) : AskIs Unit where
  o _ s := atF i.nms i.ns s
  n _ _ := ()
  D s := s ∈ i.nms
  J _ _ := True
  R _ H := H i.NL = some (.lst (i.nms.map V.str)) ∧ H i.ML = some (.lst (i.ns.map V.int))
  M _ := False
  ok := ⟨fun _ _ s _ _ => (atF_rng i.rng s).1, fun _ _ s _ _ => (atF_rng i.rng s).2, fun _ _ _ _ _ => True.intro, fun _ _ _ => True.intro⟩
  mok _ _ _ _ hc := hc.elim
  fp b := b = i.NL ∨ b = i.ML
  tr _ H b h e := by
    rcases e with e | e
    · rw [e]; exact ⟨_, h.1⟩
    · rw [e]; exact ⟨_, h.2⟩
  up _ H H' h k := ⟨(k _ (.inl rfl)).trans h.1, (k _ (.inr rfl)).trans h.2⟩
abbrev QF : Str := ("_law_fits" : Str) ++ ".<locals>." ++ "<lambda>"
def spLAnsF (f c : Addr) (ws : List (Option V)) : Sp := fun vs H Q E => ∃ i : FI, ws = [some (.ref i.NL), some (.ref i.ML)] ∧ spLAns (asF i) f (LPre c QF) 1 vs H Q E
section
variable {P : Program} {w : World} {K : PySem.W.Frag} {mg : Str → Option Value} {base : Heap} {f : Addr} {fd : FuncData}
theorem lam_fits {M : LF} {params : Arguments} {body : Expr} {scope : Scope} {B : Heap} {lf : Addr} {ws : List (Option V)} {p1 p2 p3 p4 p5 p6 : Pos} (hp : M.params = params) (hb : M.body = body) (hs : M.scope = scope) (hf : B.get? lf = some M.obj) (C : CellsB B M.cl ["_law_names_here", "_law_numbers"] ws)
    (h1 : body = .Subscript (.Name "_law_numbers" p1) (.Call (.Attribute (.Name "_law_names_here" p2) "index" p3) [.Name "_law_name" p4] [] p5) p6) (h2 : NdefX.nscB ["_law_name", "_law_names_here", "_law_numbers"] ["_law_name"] ["_law_names_here", "_law_numbers"] scope = true)
    (h3 : ∀ (q : Str) (cl : List (Str × Addr)) (pm cv ctv : Value) (u : Value), bindArgs (PySem.W.kla_fn "<lambda>" q params body scope cl pm cv ctv) ⟨[u], []⟩ = pure [(("_law_name" : Str), u)]) (h4 : (p3.endLine == p5.line) = true)
    (i : FI) (e' : ws = [some (.ref i.NL), some (.ref i.ML)]) : Clo P w K mg B CX0 1 lf (LPre M.c M.qual) (asF i).sp := by
  subst hp hb hs e'
  have S := NdefX.nscope_by h2
  refine clo_lam (k := 0) (ps := ["_law_name"]) hf C S (fun us hl => ?_) (fun vs H Q E h => ?_) (fun A outer s H vs Q E hr hpre h => ?_)
  · match us, hl with
    | [u], _ => exact h3 _ _ _ _ _ _
  · obtain ⟨s, st, rfl, _⟩ := h
    rfl
  · obtain ⟨s, st, rfl, ds, j, ⟨hN, hM⟩, q⟩ := h
    rw [h1]
    refine ⟨_, pe_ix ix_list (pv 2 rfl (.inr (.inr (S.frk _ (List.mem_cons_of_mem _ List.mem_cons_self)))))
      (pe_bm PySem.F.plainAttrs_list PySem.F.slot_list_index PySem.F.type_list_index mt_index (pv 1 rfl (.inr (.inr (S.frk _ List.mem_cons_self)))) (pa_cons (pv 0 rfl (.inl (S.par _ List.mem_cons_self))) pa_nil) (hline := h4)) (fun _ _ => rfl), ?_⟩
    obtain ⟨j, hj, e1, e2, e3⟩ := atF_at i.hl ds
    refine ⟨_, rfl, _, rfl, .inl ⟨rfl, _, SqL.of hN⟩, _, rfl, i.NL, i.nms.map V.str, .str s, j, .str s, rfl, rfl, SqL.of hN, rfl, ?_, ?_, ?_, ?_, ?_⟩
    · rw [List.all_eq_true]
      intro x hx
      obtain ⟨z, _, rfl⟩ := List.mem_map.mp hx
      rfl
    · rw [List.getElem?_map, e1]; rfl
    · show decide (s = s) = true
      exact decide_eq_true rfl
    · intro m z' hm hz'
      rw [List.getElem?_map] at hz'
      cases ez : i.nms[m]? with
      | none => rw [ez] at hz'; cases hz'
      | some z =>
        rw [ez] at hz'
        cases hz'
        have := e3 m z hm ez
        show decide (z = s) = false
        exact decide_eq_false this
    · refine ⟨i.ML, _, _, .int (atF i.nms i.ns s), rfl, rfl, SqL.of hM, atI_nat (by rw [List.getElem?_map, e2]; rfl), ?_⟩
      exact q H (ButS.refl _ _) ⟨hN, hM⟩
end
def spFits (T2 : Addr) : Sp := fun vs H Q _ => ∃ (i : FI) (TR : Addr) (v0 v1 : V) (t0 t1 : T) (n0 n1 : Int), vs = [.ref i.NL, .ref TR, .ref i.ML] ∧ H i.NL = some (.lst (i.nms.map V.str)) ∧ H i.ML = some (.lst (i.ns.map V.int)) ∧ H TR = some (.lst [v0, v1]) ∧ i.ns[0]? = some n0 ∧ i.ns[1]? = some n1 ∧
  LA H v0 t0 ∧ LA H v1 t1 ∧ TOk (· ∈ i.nms) 1 t0 ∧ TOk (· ∈ i.nms) 1 t1 ∧ (∀ s ∈ i.nms, NameOk s) ∧ LamX.Tabs [(T2, QF)] H ∧
  ∀ H', FrX H H' → LamX.Tabs [(T2, QF)] H' → Q (.bl (decide (ev (atF i.nms i.ns) t0 = n0 ∧ ev (atF i.nms i.ns) t1 = n1))) H'
section
variable {P : Program} {w : World} {K : PySem.W.Frag} {mg : Str → Option Value} {base : Heap} {f : Addr}
theorem ok_fits {c T2 fL : Addr} {dL : FuncData} {oc : Value} {od ann : Option Addr} {osl : Array (Option Value)} {kV doc pm ct : Value}
    (l : K.lookup f = some ⟨oc, od, .func (PySem.W.fnOf "_law_fits" "_law_fits" (defArgs s_law_fits) (defBody s_law_fits) (defScope s_law_fits) .none kV doc pm ann (.ref c) ct), osl⟩) (hcd : PySem.W.codeIn K (.ref c) "_law_fits" = true) (TA' : TxtA mg) (zr : mg "range" = none) (TB : LamX.TabB base mg c T2) (LN : LnD K mg fL dL) :
    FnOk P w K mg base CX0 7 f (PySem.W.fnOf "_law_fits" "_law_fits" (defArgs s_law_fits) (defBody s_law_fits) (defScope s_law_fits) .none kV doc pm ann (.ref c) ct) ["_law_names_here", "_law_trees", "_law_numbers"] (spFits T2) := by
  refine fun_okC l hcd sc_law_fits (fun vs H Q E h => ?_) (fun A outer s H vs Q E hr h => ?_)
  · obtain ⟨i, TR, v0, v1, t0, t1, n0, n1, rfl, _⟩ := h
    rfl
  obtain ⟨i, TR, v0, v1, t0, t1, n0, n1, rfl, hN, hM, hT, hn0, hn1, lv0, lv1, tk0, tk1, hok, hTab, q⟩ := h
  have nd := sc_law_fits.nd
  have hr3 : Room (1 + 1 + 1) _ := hr.mono (by decide)
  have hF1 : ∀ y ∈ [(("_law_name" : Str), NameKind.local), ("_law_names_here", NameKind.free), ("_law_numbers", NameKind.free)], y.2 = .free → (defScope s_law_fits).names.lookup y.1 = some .cell ∨ (defScope s_law_fits).names.lookup y.1 = some .free := by decide +kernel
  refine ⟨_, pss_cons (ps_for PassesOwn.never rfl (pi_range1 rfl zr (pa_cons pe_int pa_nil)) (pg_name (i := 3) nd rfl (.inl rfl))
      (pss_one (ps_if (pt_cmpR op_ne (pe_lam2 (E := E0) (T := [(T2, QF)]) (sp := spLAnsF) (js := [0, 2]) (fr := ["_law_names_here", "_law_numbers"])
          (fun B f' M ws hq hp hb hs sub hf C => FnOk_ex (fun _ _ _ _ _ z => by obtain ⟨_, _, _, rfl, _⟩ := z; rfl) fun i e => by
            rw [show QF = M.qual from hq.symm]
            exact lans_all (kc := 1) (lam_fits hp hb hs hf C rfl (by decide +kernel) (fun _ _ _ _ _ _ => rfl) rfl i e) (stab_code _ _ _) TA' LN 1)
          (fun _ => rfl) hF1 (by decide +kernel) rfl hr3 rfl LN.m LN.F.kp LN.b pass0 (pe_ix ix_list (pv 1) (pv 3) (fun _ _ => rfl))
          TB rfl List.mem_cons_self (fun z hz _ => by rw [List.mem_singleton.mp hz]; rfl) rfl) (pe_ix ix_list (pv 2) (pv 3) (fun _ _ => rfl)) (nomark _))
        (pss_one (ps_ret pe_bl)) pss_nil)))
    (pss_one (ps_ret pe_bl)), ?_⟩
  refine ⟨2, rfl, by decide, by decide, ?_⟩
  refine for_range (lo := 0) (n := 2) (fun j σ H' => ∃ (v3 : Option V), σ = [some (.ref i.NL), some (.ref TR), some (.ref i.ML), v3] ∧ FrX H H' ∧ LamX.Tabs [(T2, QF)] H' ∧ (1 ≤ j → ev (atF i.nms i.ns) t0 = n0) ∧ (2 ≤ j → ev (atF i.nms i.ns) t1 = n1)) ⟨_, rfl, fun b o hb _ => hb, hTab, (fun z => by omega), fun z => by omega⟩ ?_ ?_
  · rintro j σ HA hj ⟨v3, rfl, fr, tb, h0, h1⟩
    obtain ⟨vj, tj, nj, e1, e2, lj, tkj, hz0, hz⟩ : ∃ (vj : V) (tj : T) (nj : Int), atI [v0, v1] (0 + (j : Int)) = some vj ∧ atI (i.ns.map V.int) (0 + (j : Int)) = some (.int nj) ∧ LA H vj tj ∧ TOk (· ∈ i.nms) 1 tj ∧ (ev (atF i.nms i.ns) tj ≠ nj → decide (ev (atF i.nms i.ns) t0 = n0 ∧ ev (atF i.nms i.ns) t1 = n1) = false) ∧ (ev (atF i.nms i.ns) tj = nj → (1 ≤ j + 1 → ev (atF i.nms i.ns) t0 = n0) ∧ (2 ≤ j + 1 → ev (atF i.nms i.ns) t1 = n1)) := by
      match j, hj with
      | 0, _ => exact ⟨v0, t0, n0, rfl, atI_nat (j := 0) (by rw [List.getElem?_map, hn0]; rfl), lv0, tk0, fun w => decide_eq_false fun z => w z.1, fun w => ⟨fun _ => w, fun z => by omega⟩⟩
      | 1, _ => exact ⟨v1, t1, n1, rfl, atI_nat (j := 1) (by rw [List.getElem?_map, hn1]; rfl), lv1, tk1, fun w => decide_eq_false fun z => w z.2, fun w => ⟨fun _ => h0 (Nat.le_refl 1), fun _ => w⟩⟩
    have kpL : Keep H HA := ⟨fun b xs hb => fr b _ hb (fun _ z => by cases z), fun b a r hb => fr b _ hb (fun _ z => by cases z)⟩
    refine ⟨_, rfl, _, rfl, TR, [v0, v1], _, vj, rfl, rfl, SqL.of (fr _ _ hT (fun _ z => by cases z)), e1, tb, fun lf c' H2 eN TN hc' => ?_⟩
    have kp2 : Keep HA H2 := ⟨fun b xs hb => eN b _ hb (fun _ z => by cases z), fun b a r hb => eN b _ hb (fun _ z => by cases z)⟩
    obtain ⟨wf, dp, sz⟩ := ok_WF 1 (TOk.imp hok 1 tkj)
    refine ⟨i, rfl, vj, tj, (), rfl, (lj.mono kpL).mono kp2, wf, nm_of 1 tkj, dp, Nat.le_trans sz (by decide), True.intro, ⟨eN _ _ (fr _ _ hN (fun _ z => by cases z)) (fun _ z => by cases z), eN _ _ (fr _ _ hM (fun _ z => by cases z)) (fun _ z => by cases z)⟩, hc', fun H3 b3 R3 => ?_⟩
    have s3 := butF.mp b3
    have fr3 : FrX H H3 := fun b o hb ht => s3 _ _ (eN _ _ (fr b o hb ht) ht)
    refine ⟨_, rfl, _, rfl, i.ML, _, _, .int nj, rfl, rfl, SqL.of R3.2, e2, rfl, _, rfl, ?_⟩
    have TN3 := TN.ext s3
    refine ite2 (fun cc => ?_) (fun cc => ?_)
    · have := q H3 fr3 TN3
      rw [hz0 (fun w => by rw [show V.int (ans (asF i).o (asF i).n tj ()).1 = V.int nj from congrArg V.int w, decide_eq_true rfl] at cc; cases cc)] at this
      exact this
    · refine ⟨_, rfl, fr3, TN3, hz (Decidable.byContradiction fun w => cc ?_)⟩
      rw [decide_eq_false (show ¬ V.int (ans (asF i).o (asF i).n tj ()).1 = V.int nj from fun e => w (V.int.inj e))]
      rfl
  · rintro σ HA ⟨v3, rfl, fr, tb, h0, h1⟩
    have := q HA fr tb
    rw [decide_eq_true ⟨h0 (by decide), h1 (by decide)⟩] at this
    exact this
end
end Aw

namespace Aw
open PySem L2
/-! ### least over a text that is none -/
structure Up09 (K : PySem.W.Frag) (mg : Str → Option Value) (N HE NN : Addr) : Prop where
  xx : PySem.W.exmOne K (.ref N) (.ref N) = some true
  c : ExcC K N
  gc : mg "NoRecipe" = some (.ref N)
  gh : mg "HallError" = some (.ref HE)
  gn : mg "NoName" = some (.ref NN)
  isi : mg "isinstance" = none
  kh : PySem.W.kitOne K (.ref N) (.ref HE) = some true
  kn : PySem.W.kitOne K (.ref N) (.ref NN) = some false
def spRef9 (T1 T2 : Addr) : Sp := fun vs H Q _ => ∃ (W D : Addr) (wk : List (Key × V)) (ws : List Str) (tx : Str → Str), vs = [.ref W, .ref D] ∧ H W = some (.dK wk) ∧ SD wk ∧ wk.length ≤ 100 ∧ H D = some (.dK (ws.map fun s => ((Sum.inr s : Key), V.str (tx s)))) ∧ ws.Nodup ∧ ws.length ≤ 100 ∧
  (∀ s ∈ ws, (tx s).length ≤ 1000 ∧ ∀ t, readM (tx s) = some t → WF t ∧ dep t ≤ 2 ∧ Sz t ≤ 100000) ∧ NdefX.TabsN (NT T1 (T2, QF)) H ∧ (∃ s ∈ ws, readM (tx s) = none) ∧ ∀ H', Q (.bl true) H'
section
variable {P : Program} {w : World} {K : PySem.W.Frag} {mg : Str → Option Value} {base : Heap} {f : Addr} {fd : FuncData} {N HE NN : Addr}
set_option maxHeartbeats 0 in
theorem ok_refused {T1 T2 fl : Addr} {dl : FuncData} (F : Fun K "_law_refused" "_law_refused" s_law_refused f fd) (T : Up09 K mg N HE NN)
    (Le : FnOk P w K mg base (L2.CX P w) 28 fl dl ["wells", "works"] (spLeastX N T1 (T2, QF))) (bL : Binds K dl ["wells", "works"] []) (kL : PySem.W.keepIn K (.ref fl) = true) (mL : mg "least" = some (.ref fl)) :
    FnOk P w K mg base CX0 29 f fd ["_law_wells", "_law_works"] (spRef9 T1 T2) := by
  refine F.ok sc_law_refused (fun vs H Q E h => ?_) (fun cdv A00 outer s H vs Q E hr h => ?_)
  · obtain ⟨W, D, wk, ws, tx, rfl, _⟩ := h
    rfl
  obtain ⟨W, D, wk, ws, tx, rfl, hW, sd, lW, hD, nd', lw, hrd, hT, en, q⟩ := h
  have nd := sc_law_refused.nd
  have hr28 : Room 28 _ := hr.mono (by decide)
  refine ⟨_, pss_cons (ps_try_cl rfl rfl takes0 (fun W pn xe tk _ => pss_one (ps_expr (pe_callS Le hr28 rfl mL kL bL (fun σ => passAt tk σ) (pa_cons (pv 0) (pa_cons (pv 1) pa_nil)))))
      (cl_as (i := 2) (c := .ref N) nd rfl rfl ⟨rfl, by decide, .inl T.gc⟩ (fun a oe cls d pn hz hf => pss_exc (N := N) hz fun hz =>
          pss_one (ps_ret (pe_and (pe_callB (call_isE T.c hz hf) (by rfl) T.isi (by decide +kernel) (pa_cons (pv 2) (pa_cons (pe_glob (v := .ref HE) rfl T.gh rfl) pa_nil)))
            (pe_one (pe_not (pe_callB (call_isE T.c hz hf) (by rfl) T.isi (by decide +kernel) (pa_cons (pv 2) (pa_cons (pe_glob (v := .ref NN) rfl T.gn rfl) pa_nil))))))))
      cl_nil))
    (pss_one (ps_ret pe_bl)), ?_⟩
  refine ⟨_, rfl, _, rfl, W, D, wk, ws, tx, rfl, hW, sd, lW, hD, nd', lw, hrd, hT, fun _ H1 => ?_, fun hall => ?_⟩
  · refine ⟨true, T.xx, fun _ a ha => ⟨⟨rfl, rfl⟩, ?_⟩, fun w => by cases w⟩
    refine ⟨_, rfl, _, _, true, rfl, fun u h => h, T.kh, _, rfl, ?_⟩
    exact ⟨_, rfl, _, _, false, rfl, fun u h => h, T.kn, _, rfl, q H1⟩
  · obtain ⟨s, hs, e⟩ := en
    have := hall s hs
    rw [e] at this
    cases this
end
end Aw

namespace Aw
open PySem L2
/-! ### k09: the law -/
theorem bad_none : ∀ b ∈ (["", "a +", "31", "(a", "a b", "[a 0] b"] : List Str), readM b = none := by
  have : ∀ b ∈ (["", "a +", "31", "(a", "a b", "[a 0] b"] : List Str), (readM b).isNone = true := by decide +kernel
  intro b hb
  exact Option.isNone_iff_eq_none.mp (this b hb)
theorem bad_len : ∀ b ∈ (["", "a +", "31", "(a", "a b", "[a 0] b"] : List Str), b.length ≤ 1000 := by decide +kernel
theorem putK_at {ws : List Str} {g : Str → V} {z : Str} {v : V} (hz : z ∈ ws) : putK (ws.map fun s => ((Sum.inr s : Key), g s)) (Sum.inr z) v = ws.map fun s => ((Sum.inr s : Key), if s = z then v else g s) := by
  unfold putK
  rw [if_pos, List.map_map]
  · refine List.map_congr_left fun s _ => ?_
    show (if (Sum.inr s : Key) = Sum.inr z then ((Sum.inr s : Key), v) else (Sum.inr s, g s)) = _
    by_cases c : s = z
    · rw [if_pos (by rw [c]), if_pos c]
    · rw [if_neg (fun e => c (Sum.inr.inj e)), if_neg c]
  · rw [List.any_eq_true]
    exact ⟨_, List.mem_map.mpr ⟨z, hz, rfl⟩, decide_eq_true rfl⟩
def spLaw9 (K : PySem.W.Frag) (T1 T2 : Addr) : Sp := fun vs H Q _ => ∃ (a : Addr) (ns : List Int), vs = [.ref a] ∧ SqL K H a (ns.map V.int) ∧ ns.length ≤ 63 ∧ H T1 = some (.tbl #[]) ∧ H T2 = some (.tbl #[]) ∧ ∀ H', Q (.bl true) H'
/-- a def of the top as it is called -/
structure Df (P : Program) (w : World) (K : PySem.W.Frag) (mg : Str → Option Value) (base : Heap) (CX : CXT) (k : Nat) (x : Str) (ps : List Str) (sp : Sp) (f : Addr) (fd : FuncData) : Prop where
  ok : FnOk P w K mg base CX k f fd ps sp
  b : Binds K fd ps []
  k : PySem.W.keepIn K (.ref f) = true
  m : mg x = some (.ref f)
/-- what the pair is -/
theorem atF3 {n0 n1 n2 : Str} {a b c : Int} (h01 : n0 ≠ n1) (h02 : n0 ≠ n2) (h12 : n1 ≠ n2) (s : Str) : atF [n0, n1, n2] [a, b, c] s = if s = n0 then a else if s = n1 then b else if s = n2 then c else 0 := by
  unfold atF
  simp only [List.findIdx_cons, List.findIdx_nil]
  by_cases c0 : s = n0
  · rw [if_pos c0, decide_eq_true c0.symm]
    rfl
  · rw [if_neg c0, decide_eq_false (fun e => c0 e.symm)]
    by_cases c1 : s = n1
    · rw [if_pos c1, decide_eq_true c1.symm]
      rfl
    · rw [if_neg c1, decide_eq_false (fun e => c1 e.symm)]
      by_cases c2 : s = n2
      · rw [if_pos c2, decide_eq_true c2.symm]
        rfl
      · rw [if_neg c2, decide_eq_false (fun e => c2 e.symm)]
        rfl
theorem wk1 {n : Str} {c : Int} (s : Str) : num [((Sum.inr n : Key), V.int c)] s = if s = n then c else 0 := by
  unfold num
  by_cases e : s = n
  · subst e
    rw [valV_pos rfl, if_pos rfl]
  · rw [valV_neg (fun z => e (Sum.inr.inj z).symm), if_neg e]
    rfl
/-- the least pair fits, and no lesser one does -/
theorem pair_ok {n0 n1 n2 : Str} {c : Int} {rc : Str → T} {x : Str → Int} (h01 : n0 ≠ n1) (h02 : n0 ≠ n2) (h12 : n1 ≠ n2) (L : Lfp [n0, n1] rc (at0 [n0, n1] [((Sum.inr n2 : Key), V.int c)]) x) :
    x = atF [n0, n1, n2] [x n0, x n1, c] := by
  funext s
  rw [atF3 h01 h02 h12]
  by_cases c0 : s = n0
  · rw [if_pos c0, c0]
  · rw [if_neg c0]
    by_cases c1 : s = n1
    · rw [if_pos c1, c1]
    · rw [if_neg c1, L.out s (by simp [c0, c1])]
      unfold at0
      rw [if_neg (by simp [c0, c1]), wk1]
theorem pair_low {n0 n1 n2 : Str} {c l r : Int} {rc : Str → T} {x : Str → Int} (h01 : n0 ≠ n1) (h02 : n0 ≠ n2) (h12 : n1 ≠ n2) (L : Lfp [n0, n1] rc (at0 [n0, n1] [((Sum.inr n2 : Key), V.int c)]) x) (c0 : 0 ≤ c) (l0 : 0 ≤ l) (r0 : 0 ≤ r)
    (f0 : ev (atF [n0, n1, n2] [l, r, c]) (rc n0) = l) (f1 : ev (atF [n0, n1, n2] [l, r, c]) (rc n1) = r) : x n0 ≤ l ∧ x n1 ≤ r := by
  have e : ∀ s, atF [n0, n1, n2] [l, r, c] s = if s = n0 then l else if s = n1 then r else if s = n2 then c else 0 := atF3 h01 h02 h12
  have low := L.low (atF [n0, n1, n2] [l, r, c]) (fun s => by rw [e]; split; exact l0; split; exact r0; split; exact c0; exact Int.le_refl 0) (fun s hs => by
      unfold at0
      rw [if_neg hs, wk1, e, if_neg (show ¬ s = n0 from fun w => hs (by rw [w]; exact List.mem_cons_self)), if_neg (show ¬ s = n1 from fun w => hs (by rw [w]; exact List.mem_cons_of_mem _ List.mem_cons_self))]
      exact Int.le_refl _) (fun s hs => by
      rcases List.mem_cons.mp hs with w | w
      · rw [w, f0, e, if_pos rfl]; exact Int.le_refl _
      · rw [List.mem_singleton.mp w, f1, e, if_neg (fun z => h01 z.symm), if_pos rfl]; exact Int.le_refl _)
  refine ⟨?_, ?_⟩
  · have := low n0
    rwa [e, if_pos rfl] at this
  · have := low n1
    rwa [e, if_neg (fun z => h01 z.symm), if_pos rfl] at this
theorem tok_up {P : Str → Prop} : ∀ (d : Nat) {t : T}, TOk P d t → TOk P (d + 1) t
  | d, .num n, h => .mkNum h.num
  | d, .name s, h => .mkName h.name
  | 0, .gate _ _ _, h => h.elim
  | 0, .join _ _, h => h.elim
  | d + 1, .gate s b t, h => ⟨h.1, h.2.1, h.2.2.1, tok_up d h.2.2.2⟩
  | d + 1, .join k ts, h => ⟨h.1, h.2.1, fun t ht => tok_up d (h.2.2 t ht)⟩
end Aw

namespace Aw
open PySem L2
section
variable {P : Program} {w : World} {K : PySem.W.Frag} {mg : Str → Option Value} {base : Heap} {f : Addr} {fd : FuncData} {N : Addr}
variable {f1 f2 f3 f4 f5 f6 f7 f8 f9 : Addr} {d1 d2 d3 d4 d5 d6 d7 d8 d9 : FuncData} {T1 T2 : Addr}
set_option maxHeartbeats 0 in
theorem ok_law09 (F : Fun K "law" "law" s_law f fd) (TL : TxtL K mg)
    (Ce : Df P w K mg base CX0 1 "_law_cell_at" ["_law_script", "_law_k"] (spCell K) f1 d1) (D : Df P w K mg base CX0 1 "_law_dice" ["_law_cell"] spDice f2 d2) (Nm' : Df P w K mg base CX0 1 "_law_names" ["_law_cell", "_law_many"] spNamesU f3 d3)
    (Tr : Df P w K mg base CX0 3 "_law_tree" ["_law_dice_here", "_law_names_here", "_law_deep"] (spTree K 1) f4 d4) (Wr : Df P w K mg base CX0 2 "_law_written" ["_law_tree_here", "_law_firm"] (spWritten 1) f5 d5)
    (Le : Df P w K mg base (L2.CX P w) 28 "least" ["wells", "works"] (spLeastX N T1 (T2, QF)) f6 d6) (Wh : Df P w K mg base CX0 1 "_law_whole" ["_law_found"] spWhole f7 d7) (Fi : Df P w K mg base CX0 7 "_law_fits" ["_law_names_here", "_law_trees", "_law_numbers"] (spFits T2) f8 d8)
    (Rf : Df P w K mg base CX0 29 "_law_refused" ["_law_wells", "_law_works"] (spRef9 T1 T2) f9 d9) :
    FnOk P w K mg base CX0 30 f fd ["_law_script"] (spLaw9 K T1 T2) := by
  refine F.ok sc_law (fun vs H Q E h => ?_) (fun cdv A outer s H vs Q E hr h => ?_)
  · obtain ⟨a, ns, rfl, _⟩ := h
    rfl
  obtain ⟨a, ns, rfl, hS, h63, hT1, hT2, q⟩ := h
  have nd := sc_law.nd
  have hr1 : Room 1 _ := hr.mono (by decide)
  have hr2 : Room 2 _ := hr.mono (by decide)
  have hr3 : Room 3 _ := hr.mono (by decide)
  have hr7 : Room 7 _ := hr.mono (by decide)
  have hr28 : Room 28 _ := hr.mono (by decide)
  refine ⟨_, pss_cons (ps_set (i := 1) nd rfl (.inr rfl) (pe_call Nm'.ok hr1 rfl Nm'.m Nm'.k Nm'.b .nil pass0 (pa_cons (pe_call Ce.ok hr1 rfl Ce.m Ce.k Ce.b .nil pass0 (pa_cons (pv 0) (pa_cons pe_int pa_nil))) (pa_cons pe_int pa_nil))))
    (pss_cons (ps_set (i := 2) nd rfl (.inl rfl) (pe_op op_mod (pe_call Ce.ok hr1 rfl Ce.m Ce.k Ce.b .nil pass0 (pa_cons (pv 0) (pa_cons pe_int pa_nil))) pe_int))
    (pss_cons (ps_setLc (i := 4) (own := [("_law_k", 3)]) (g := gName 3) rfl nd rfl rfl (sw_true rfl rfl rfl (by decide +kernel)) (pi_range1 rfl TL.range (pa_cons pe_int pa_nil)) (blkOk_by (N := ["_law_script", "_law_names_here", "_law_well", "_law_k", "_law_trees", "_law_works", "_law_bad", "_law_found", "_law_one", "_law_two", "_law_left", "_law_right"]) (sc := defScope s_law) (by decide +kernel))
        (fun _ _ _ _ _ => pg_name (i := 3) nd rfl (.inl rfl)) (fun _ _ _ _ _ => pts_nil)
        (fun _ _ _ _ _ => pe_call Tr.ok hr3 rfl Tr.m Tr.k Tr.b .nil pass0 (pa_cons (pe_call D.ok hr1 rfl D.m D.k D.b .nil pass0 (pa_cons (pe_call Ce.ok hr1 rfl Ce.m Ce.k Ce.b .nil pass0 (pa_cons (pv 0) (pa_cons (pe_op op_add pe_int (pv 3)) pa_nil))) pa_nil)) (pa_cons (pv 1) (pa_cons pe_int pa_nil)))))
    (pss_cons (ps_set (i := 5) nd rfl (.inl rfl) pe_dnewK)
    (pss_cons (ps_for PassesOwn.never rfl (pi_range1 rfl TL.range (pa_cons pe_int pa_nil)) (pg_name (i := 3) nd rfl (.inl rfl))
      (pss_one (ps_dput (hu_of hr) (pv 5) (pe_ix ix_list (pv 1) (pv 3) (fun _ _ => rfl)) (pe_call Wr.ok hr2 rfl Wr.m Wr.k Wr.b .nil pass0 (pa_cons (pe_ix ix_list (pv 4) (pv 3) (fun _ _ => rfl)) (pa_cons pe_int pa_nil))) rfl)))
    (pss_cons (ps_if (pt_cmpR op_eq (pe_op op_mod (pe_call Ce.ok hr1 rfl Ce.m Ce.k Ce.b .nil pass0 (pa_cons (pv 0) (pa_cons pe_int pa_nil))) pe_int) pe_int (nomark _))
      (pss_cons (ps_set (i := 6) nd rfl (.inl rfl) (pe_ix ix_list (pe_lst (pa_cons pe_str (pa_cons pe_str (pa_cons pe_str (pa_cons pe_str (pa_cons pe_str (pa_cons pe_str pa_nil))))))) (pe_op op_mod (pe_call Ce.ok hr1 rfl Ce.m Ce.k Ce.b .nil pass0 (pa_cons (pv 0) (pa_cons pe_int pa_nil))) pe_int) (fun _ _ => rfl)))
      (pss_cons (ps_dput (hu_of hr) (pv 5) (pe_ix ix_list (pv 1) (pe_op op_mod (pe_call Ce.ok hr1 rfl Ce.m Ce.k Ce.b .nil pass0 (pa_cons (pv 0) (pa_cons pe_int pa_nil))) pe_int) (fun _ _ => rfl)) (pv 6) rfl)
      (pss_one (ps_ret (pe_call Rf.ok hr rfl Rf.m Rf.k Rf.b .nil pass0 (pa_cons (pe_disp (pps_cons (pe_ix ix_list (pv 1) pe_int (fun _ _ => rfl)) (pv 2) pps_nil) (by rfl) (by rfl) (fun z => by cases z) (by decide)) (pa_cons (pv 5) pa_nil))))))) pss_nil)
    (pss_cons (ps_set (i := 7) nd rfl (.inl rfl) (pe_call (E := E0) Le.ok hr28 rfl Le.m Le.k Le.b .nil passL (pa_cons (pe_disp (pps_cons (pe_ix ix_list (pv 1) pe_int (fun _ _ => rfl)) (pv 2) pps_nil) (by rfl) (by rfl) (fun z => by cases z) (by decide)) (pa_cons (pv 5) pa_nil))))
    (pss_cons (ps_set (i := 8) nd rfl (.inl rfl) (pe_dget (hu_of hr) (pv 7) (pe_ix ix_list (pv 1) pe_int (fun _ _ => rfl)) (fun _ _ => rfl)))
    (pss_cons (ps_set (i := 9) nd rfl (.inl rfl) (pe_dget (hu_of hr) (pv 7) (pe_ix ix_list (pv 1) pe_int (fun _ _ => rfl)) (fun _ _ => rfl)))
    (pss_cons (ps_if (PW.pt (pw_or (pt_not (pt_val (pe_call Wh.ok hr1 rfl Wh.m Wh.k Wh.b .nil pass0 (pa_cons (pv 8) pa_nil)))) (pw_or (pt_not (pt_val (pe_call Wh.ok hr1 rfl Wh.m Wh.k Wh.b .nil pass0 (pa_cons (pv 9) pa_nil))))
        (pw_or1 (pt_not (pt_val (pe_call Fi.ok hr7 rfl Fi.m Fi.k Fi.b .nil pass0 (pa_cons (pv 1) (pa_cons (pv 4) (pa_cons (pe_lst (pa_cons (pv 8) (pa_cons (pv 9) (pa_cons (pv 2) pa_nil)))) pa_nil)))))))))) (pss_one (ps_ret pe_bl)) pss_nil)
    (pss_cons (ps_for PassesOwn.never rfl (pi_range1 rfl TL.range (pa_cons (pe_op op_add (pv 8) pe_int) pa_nil)) (pg_name (i := 10) nd rfl (.inl rfl))
      (pss_one (ps_for PassesOwn.never rfl (pi_range1 rfl TL.range (pa_cons (pe_op op_add (pv 9) pe_int) pa_nil)) (pg_name (i := 11) nd rfl (.inl rfl))
        (pss_one (ps_if (PW.pt (pw_and (pt_cmpR op_lt (pe_op op_add (pv 10) (pv 11)) (pe_op op_add (pv 8) (pv 9)) (nomark _))
          (pw_and1 (pt_val (pe_call Fi.ok hr7 rfl Fi.m Fi.k Fi.b .nil pass0 (pa_cons (pv 1) (pa_cons (pv 4) (pa_cons (pe_lst (pa_cons (pv 10) (pa_cons (pv 11) (pa_cons (pv 2) pa_nil)))) pa_nil)))))))) (pss_one (ps_ret pe_bl)) pss_nil)))))
    (pss_one (ps_ret pe_bl)))))))))))), ?_⟩
  refine ⟨_, rfl, a, ns, 0, rfl, hS, h63, fun c0 => ?_⟩
  refine ⟨c0, 3, rfl, by omega, by omega, fun l H1 nms s1 hl el1 hlen hok hnd => ?_⟩
  have h0n : 0 < nms.length := by omega
  refine ⟨_, rfl, a, ns, 1, rfl, s1.seq hS, h63, fun c1 => ?_⟩
  refine ⟨_, _, rfl, rfl, (by show (0 : Int) < 31; decide), ?_⟩
  obtain ⟨c, hc⟩ : ∃ c, c = c1 % 31 := ⟨_, rfl⟩
  have hcl : 0 ≤ c := by rw [hc]; exact Int.emod_nonneg _ (by decide)
  have hch : c ≤ 30 := by rw [hc]; have := Int.emod_lt_of_pos c1 (by decide : (0 : Int) < 31); omega
  show gName 2 (V.int (c1 % 31)) _ _ _
  rw [← hc]
  refine ⟨2, rfl, (by decide), (by decide), fun TD hTD => ?_⟩
  refine lc_range (lo := 0) (n := 2) (fun i H' => ∃ tvs ts, H' TD = some (.lst tvs) ∧ LAs (hide TD H') tvs ts ∧ ts.length = i ∧ (∀ t ∈ ts, TOk (· ∈ nms) 1 t) ∧ ∀ b o, H1 b = some o → H' b = some o) ?_ ?_ ?_
  · exact ⟨[], [], upd_same, .nil, rfl, fun t ht => (by cases ht), fun b o e => same_new hTD _ _ _ e⟩
  · rintro i H' hi ⟨tvs, ts, e', lts, hl', tks, k'⟩
    refine ⟨rfl, ?_⟩
    refine ⟨_, rfl, _, rfl, _, _, rfl, rfl, a, ns, 2 + i, (by simp), Same.seq (fun b o e => k' b o (s1 b o e)) hS, h63, fun x => ?_⟩
    refine ⟨x, rfl, fun dd HB sB hdd DB => ?_⟩
    refine ⟨_, rfl, dd, l, nms, rfl, DB, sB _ _ (k' _ _ el1), h0n, by omega, fun v HC t bC DC lv tk => ?_⟩
    have nTd : TD ≠ dd := ne_of_none e' hdd
    have eB := sB _ _ e'
    have eC := bC _ _ eB nTd
    have hlen' := lts.length
    refine ⟨tvs, eC, small1000 (by omega), tvs ++ [v], ts ++ [t], upd_same, ?_, ?_, ?_, fun b o e => ?_⟩
    · refine LAs.snoc (lv.mono (.of_same fun b o hb => ?_)) (lts.mono (.of_same fun b o hb => ?_))
      · obtain ⟨z1, z2⟩ := fresh_inv hb
        have nb : b ≠ TD := by intro z; subst z; rw [eB] at z1; cases z1
        unfold hide
        rw [if_neg nb, upd_ne nb]
        exact z2
      · unfold hide at hb ⊢
        by_cases nb : b = TD
        · rw [if_pos nb] at hb; cases hb
        · rw [if_neg nb] at hb ⊢
          rw [upd_ne nb]
          exact bC _ _ (sB _ _ hb) (ne_of_none hb hdd)
    · rw [List.length_append, List.length_singleton, hl']
    · intro t' ht'
      rcases List.mem_append.mp ht' with z | z
      · exact tks t' z
      · rw [List.mem_singleton.mp z]; exact tk
    · rw [upd_ne (ne_of_none e hTD)]
      exact bC _ _ (sB _ _ (k' b o e)) (ne_of_none (k' b o e) hdd)
  rintro H2 ⟨tvs, ts, eT, lts, hl2, tks, s12⟩
  obtain ⟨v0, v1, t0, t1, rfl, rfl, la0', la1'⟩ : ∃ v0 v1 t0 t1, tvs = [v0, v1] ∧ ts = [t0, t1] ∧ LA (hide TD H2) v0 t0 ∧ LA (hide TD H2) v1 t1 := by
    cases lts with
    | nil => cases hl2
    | cons p lts =>
      cases lts with
      | nil => cases hl2
      | cons r lts =>
        cases lts with
        | nil => exact ⟨_, _, _, _, rfl, rfl, p, r⟩
        | cons _ _ => simp at hl2
  have hh : Same (hide TD H2) H2 := fun b o hb => by
    unfold hide at hb
    split at hb
    · cases hb
    · exact hb
  have la0 : LA H2 v0 t0 := la0'.mono (.of_same hh)
  have la1 : LA H2 v1 t1 := la1'.mono (.of_same hh)
  have tk0 := tks t0 List.mem_cons_self
  have tk1 := tks t1 (List.mem_cons_of_mem _ List.mem_cons_self)
  clear la0' la1' lts hl2 tks hh
  obtain ⟨n0, n1, n2, rfl⟩ : ∃ n0 n1 n2, nms = [n0, n1, n2] := by
    match nms, hlen with
    | [a, b, c], _ => exact ⟨a, b, c, rfl⟩
    | [], h => cases h
    | [_], h => cases h
    | [_, _], h => cases h
  have h01 : n0 ≠ n1 := fun e => by rw [e] at hnd; simp at hnd
  have h02 : n0 ≠ n2 := fun e => by rw [e] at hnd; simp at hnd
  have h12 : n1 ≠ n2 := fun e => by rw [e] at hnd; simp at hnd
  have nd2 : [n0, n1].Nodup := by simp [h01]
  have el2 : H2 l = some (.lst ([n0, n1, n2].map V.str)) := s12 _ _ el1
  have hS2 : SqL K H2 a (ns.map V.int) := Same.seq (fun b o e => s12 b o (s1 b o e)) hS
  obtain ⟨tr, htr⟩ : ∃ tr : Str → Aw.T, tr = fun s => if s = n0 then t0 else t1 := ⟨_, rfl⟩
  have tr0 : tr n0 = t0 := by rw [htr]; exact if_pos rfl
  have tr1 : tr n1 = t1 := by rw [htr]; exact if_neg fun e => h01 e.symm
  have trk : ∀ s ∈ [n0, n1], TOk (· ∈ [n0, n1, n2]) 1 (tr s) := fun s hs => by
    rcases List.mem_cons.mp hs with z | z
    · rw [z, tr0]; exact tk0
    · rw [List.mem_singleton.mp z, tr1]; exact tk1
  have trN : ∀ s ∈ [n0, n1], TOk NameOk 1 (tr s) := fun s hs => TOk.imp hok 1 (trk s hs)
  have hrd : ∀ s ∈ [n0, n1], readM (wr 0 (tr s)) = some (tr s) ∧ (wr 0 (tr s)).length ≤ 1000 ∧ WF (tr s) ∧ dep (tr s) ≤ 2 ∧ Sz (tr s) ≤ 100000 := fun s hs => by
    have tk := tok_up 1 (trN s hs)
    obtain ⟨wf, dp, sz⟩ := ok_WF 2 tk
    have wl := wr_len (fun s h => nameOk_len h) 2 0 tk
    have lb : LB 2 = 134 := rfl
    exact ⟨read_wr tk, by omega, wf, dp, Nat.le_trans sz (by decide)⟩
  refine fun WD hWD => ?_
  have nTW : TD ≠ WD := ne_of_none eT hWD
  refine ⟨2, rfl, by decide, by decide, ?_⟩
  refine for_range (lo := 0) (n := 2) (fun i σ H' => ∃ v3 : Option V, σ = [some (.ref a), some (.ref l), some (.int c), v3, some (.ref TD), some (.ref WD), none, none, none, none, none, none] ∧ (∀ b o, H2 b = some o → H' b = some o) ∧ H' WD = some (.dK (([n0, n1].take i).map fun s => ((Sum.inr s : Key), V.str (wr 0 (tr s))))))
    ⟨_, rfl, same_new hWD _, upd_same⟩ ?_ ?_
  · rintro i σ HA hi ⟨v3, rfl, sA, eW⟩
    obtain ⟨s, vj, hs, e1, e2, lj⟩ : ∃ (s : Str) (vj : V), [n0, n1][i]? = some s ∧ atI [v0, v1] (0 + (i : Int)) = some vj ∧ atI ([n0, n1, n2].map V.str) (0 + (i : Int)) = some (.str s) ∧ LA H2 vj (tr s) := by
      match i, hi with
      | 0, _ => exact ⟨n0, v0, rfl, rfl, rfl, by rw [tr0]; exact la0⟩
      | 1, _ => exact ⟨n1, v1, rfl, rfl, rfl, by rw [tr1]; exact la1⟩
    have hm : s ∈ [n0, n1] := List.mem_of_getElem? hs
    have nt := not_take nd2 hs
    refine ⟨_, rfl, _, rfl, TD, [v0, v1], _, vj, rfl, rfl, SqL.of (sA _ _ eT), e1, ?_⟩
    refine ⟨vj, tr s, 0, rfl, lj.mono (.of_same sA), trN s hm, fun HB sB => ?_⟩
    refine ⟨_, rfl, _, rfl, _, rfl, l, _, _, .str s, rfl, rfl, SqL.of (sB _ _ (sA _ _ el2)), e2, ?_⟩
    refine ⟨WD, _, rfl, DPut.k (k := Sum.inr s) (sB _ _ eW) (Nat.lt_of_le_of_lt (by rw [List.length_map, List.length_take]; omega : ((([n0, n1].take i).map fun s => ((Sum.inr s : Key), V.str (wr 0 (tr s)))).length ≤ 1000)) (by decide)), _, rfl, fun b o hb => ?_, ?_⟩
    · rw [upd_ne (ne_of_none hb hWD)]
      exact sB _ _ (sA _ _ hb)
    · rw [upd_same, putK_new _ (val_none (g := fun s => V.str (wr 0 (tr s))) nt), take_more hs, List.map_append]
      rfl
  rintro σ H3 ⟨v3, rfl, s23, eW⟩
  have eW : H3 WD = some (.dK ([n0, n1].map fun s => ((Sum.inr s : Key), V.str (wr 0 (tr s))))) := eW
  have el3 := s23 _ _ el2
  have hS3 : SqL K H3 a (ns.map V.int) := Same.seq s23 hS2
  have sH3 : Same H H3 := fun b o e => s23 _ _ (s12 _ _ (s1 _ _ e))
  have sdw : SD [((Sum.inr n2 : Key), V.int c)] := SD.put' (kvs := []) ⟨List.nodup_nil, fun p hp => by cases hp⟩ hcl hch
  refine ⟨_, rfl, a, ns, 4, rfl, hS3, h63, fun c4 => ⟨_, _, rfl, rfl, (by show (0 : Int) < 8; decide), rfl, _, rfl, ?_⟩⟩
  refine ite2 (fun _ => ?_) (fun _ => ?_)
  · refine ⟨(by show 6 ≤ sizeLine; decide), fun B hB => ?_⟩
    have s4 := same_new hB (.lst [.str "", .str "a +", .str "31", .str "(a", .str "a b", .str "[a 0] b"])
    refine ⟨_, rfl, a, ns, 5, rfl, Same.seq s4 hS3, h63, fun c5 => ⟨_, _, rfl, rfl, (by show (0 : Int) < 6; decide), ?_⟩⟩
    obtain ⟨bad, hbad, hat⟩ := at_strs (nms := [("" : Str), "a +", "31", "(a", "a b", "[a 0] b"]) (Int.emod_nonneg c5 (by decide : (6 : Int) ≠ 0)) (Int.emod_lt_of_pos c5 (by decide : (0 : Int) < 6))
    refine ⟨B, _, _, .str bad, rfl, rfl, SqL.of upd_same, hat, ?_⟩
    refine ⟨_, rfl, _, rfl, _, rfl, _, rfl, a, ns, 6, rfl, Same.seq s4 hS3, h63, fun c6 => ⟨_, _, rfl, rfl, (by show (0 : Int) < 2; decide), ?_⟩⟩
    obtain ⟨z, hz, hzt⟩ : ∃ z, z ∈ [n0, n1] ∧ atI ([n0, n1, n2].map V.str) (c6 % 2) = some (.str z) := by
      have m0 := Int.emod_nonneg c6 (by decide : (2 : Int) ≠ 0)
      have m1 := Int.emod_lt_of_pos c6 (by decide : (0 : Int) < 2)
      rcases (by omega : c6 % 2 = 0 ∨ c6 % 2 = 1) with e | e
      · rw [e]; exact ⟨n0, List.mem_cons_self, rfl⟩
      · rw [e]; exact ⟨n1, List.mem_cons_of_mem _ List.mem_cons_self, rfl⟩
    refine ⟨l, _, _, .str z, rfl, rfl, SqL.of (s4 _ _ el3), hzt, ?_⟩
    refine ⟨WD, _, rfl, DPut.k (k := Sum.inr z) (s4 _ _ eW) (by show 2 < sizeLine; decide), ?_⟩
    have nWB : WD ≠ B := ne_of_none eW hB
    refine fun p hp => ?_
    have nlW : l ≠ WD := ne_of_none el2 hWD
    have el4 : (upd (upd H3 B (.lst [.str "", .str "a +", .str "31", .str "(a", .str "a b", .str "[a 0] b"])) WD (.dK (putK ([n0, n1].map fun s => ((Sum.inr s : Key), V.str (wr 0 (tr s)))) (Sum.inr z) (.str bad)))) l = some (.lst ([n0, n1, n2].map V.str)) := by
      rw [upd_ne nlW]; exact s4 _ _ el3
    have eW4 : (upd (upd H3 B (.lst [.str "", .str "a +", .str "31", .str "(a", .str "a b", .str "[a 0] b"])) WD (.dK (putK ([n0, n1].map fun s => ((Sum.inr s : Key), V.str (wr 0 (tr s)))) (Sum.inr z) (.str bad)))) WD = some (.dK ([n0, n1].map fun s => ((Sum.inr s : Key), V.str (if s = z then bad else wr 0 (tr s))))) := by
      rw [upd_same, putK_at (g := fun s => V.str (wr 0 (tr s))) hz]
      refine congrArg (fun l => some (HO.dK l)) (List.map_congr_left fun s _ => ?_)
      by_cases c : s = z
      · rw [if_pos c, if_pos c]
      · rw [if_neg c, if_neg c]
    have sT : ∀ b o, H b = some o → b ≠ WD → (upd (upd H3 B (.lst [.str "", .str "a +", .str "31", .str "(a", .str "a b", .str "[a 0] b"])) WD (.dK (putK ([n0, n1].map fun s => ((Sum.inr s : Key), V.str (wr 0 (tr s)))) (Sum.inr z) (.str bad)))) b = some o := fun b o hb hn => by
      rw [upd_ne hn]; exact s4 _ _ (sH3 _ _ hb)
    revert hp el4 eW4 sT
    generalize upd (upd H3 B (.lst [.str "", .str "a +", .str "31", .str "(a", .str "a b", .str "[a 0] b"])) WD (.dK (putK ([n0, n1].map fun s => ((Sum.inr s : Key), V.str (wr 0 (tr s)))) (Sum.inr z) (.str bad))) = H4
    intro hp el4 eW4 sT
    have s5 := same_new hp (.dK [])
    refine ⟨_, rfl, l, _, 2, .str n2, rfl, rfl, SqL.of (s5 _ _ el4), rfl, ?_⟩
    refine ⟨_, rfl, upd_same, [((Sum.inr n2 : Key), V.int c)], rfl, (by show 1 ≤ 15; decide), ?_⟩
    have nWp : WD ≠ p := ne_of_none eW4 hp
    have nHW : ∀ b o, H b = some o → b ≠ WD := fun b o hb e => by
      have := s12 _ _ (s1 _ _ hb)
      rw [e, hWD] at this
      cases this
    have tb : ∀ b, H b = some (.tbl #[]) → (upd (upd H4 p (.dK [])) p (.dK (mergeK [] [((Sum.inr n2 : Key), V.int c)]))) b = some (.tbl #[]) := fun b hb => by
      have h4 := sT _ _ hb (nHW _ _ hb)
      rw [upd_ne (ne_of_none h4 hp)]
      exact s5 _ _ h4
    refine ⟨_, rfl, p, WD, _, [n0, n1], fun s => if s = z then bad else wr 0 (tr s), rfl, upd_same, sdw, (by show 1 ≤ 100; decide), ?_, nd2, (by show 2 ≤ 100; decide), fun s hs => ?_, fun q hq => ?_, ⟨z, hz, ?_⟩, q⟩
    · rw [upd_ne nWp]
      exact s5 _ _ eW4
    · show (if s = z then bad else wr 0 (tr s)).length ≤ 1000 ∧ ∀ t, readM (if s = z then bad else wr 0 (tr s)) = some t → WF t ∧ dep t ≤ 2 ∧ Sz t ≤ 100000
      by_cases c : s = z
      · rw [if_pos c]
        exact ⟨bad_len _ hbad, fun t ht => by rw [bad_none _ hbad] at ht; cases ht⟩
      · rw [if_neg c]
        obtain ⟨r, ln, w⟩ := hrd s hs
        exact ⟨ln, fun t ht => by rw [r] at ht; cases ht; exact w⟩
    · rcases List.mem_cons.mp hq with z | z
      · rw [z]; exact NdefX.TabN.nil (tb _ hT1)
      · rw [List.mem_singleton.mp z]; exact NdefX.TabN.nil (tb _ hT2)
    · show readM (if z = z then bad else wr 0 (tr z)) = none
      rw [if_pos rfl]
      exact bad_none _ hbad
  · refine fun p hp => ?_
    have s5 := same_new hp (.dK [])
    refine ⟨_, rfl, l, _, 2, .str n2, rfl, rfl, SqL.of (s5 _ _ el3), rfl, ?_⟩
    refine ⟨_, rfl, upd_same, [((Sum.inr n2 : Key), V.int c)], rfl, (by show 1 ≤ 15; decide), ?_⟩
    have s35 : Same H3 (upd (upd H3 p (.dK [])) p (.dK (mergeK [] [((Sum.inr n2 : Key), V.int c)]))) := fun b o hb => by
      rw [upd_ne (ne_of_none hb hp)]
      exact s5 _ _ hb
    have ep : (upd (upd H3 p (.dK [])) p (.dK (mergeK [] [((Sum.inr n2 : Key), V.int c)]))) p = some (.dK [((Sum.inr n2 : Key), V.int c)]) := upd_same
    revert s35 ep
    generalize upd (upd H3 p (.dK [])) p (.dK (mergeK [] [((Sum.inr n2 : Key), V.int c)])) = H5
    intro s35 ep
    refine ⟨_, rfl, p, WD, _, [n0, n1], fun s => wr 0 (tr s), rfl, ep, sdw, (by show 1 ≤ 100; decide), s35 _ _ eW, nd2, (by show 2 ≤ 100; decide), fun s hs => ⟨(hrd s hs).2.1, fun t ht => by rw [(hrd s hs).1] at ht; cases ht; exact (hrd s hs).2.2⟩, fun q hq => ?_, fun ⟨s, hs, en⟩ => (by rw [(hrd s hs).1] at en; cases en), fun _ pF x HF frF tF neF eF lfp => ?_⟩
    · rcases List.mem_cons.mp hq with z | z
      · rw [z]; exact NdefX.TabN.nil (s35 _ _ (sH3 _ _ hT1))
      · rw [List.mem_singleton.mp z]; exact NdefX.TabN.nil (s35 _ _ (sH3 _ _ hT2))
    have rcE : ∀ s ∈ [n0, n1], rcG (fun s => wr 0 (tr s)) s = tr s := fun s hs => by
      unfold rcG
      rw [(hrd s hs).1]
      rfl
    have rc0 := (rcE n0 List.mem_cons_self).trans tr0
    have rc1 := (rcE n1 (List.mem_cons_of_mem _ List.mem_cons_self)).trans tr1
    have elF : HF l = some (.lst ([n0, n1, n2].map V.str)) := frF _ _ (s35 _ _ el3) (fun _ z => by cases z)
    have eTF : HF TD = some (.lst [v0, v1]) := frF _ _ (s35 _ _ (s23 _ _ eT)) (fun _ z => by cases z)
    have kpF : Keep H2 HF := ⟨fun b xs hb => frF b _ (s35 _ _ (s23 _ _ hb)) (fun _ z => by cases z), fun b a r hb => frF b _ (s35 _ _ (s23 _ _ hb)) (fun _ z => by cases z)⟩
    have laF0 := la0.mono kpF
    have laF1 := la1.mono kpF
    have tbF : LamX.Tabs [(T2, QF)] HF := fun z hz => by
      obtain ⟨ps, t1, t2, t3⟩ := tF (T2, fun _ _ => QF) (List.mem_cons_of_mem _ List.mem_cons_self)
      rw [List.mem_singleton.mp hz]
      exact ⟨ps, t1, t2, t3⟩
    have m0 : n0 ∈ [n0, n1] := List.mem_cons_self
    have m1 : n1 ∈ [n0, n1] := List.mem_cons_of_mem _ List.mem_cons_self
    have r0 := lfp.rng n0
    have r1 := lfp.rng n1
    have px := pair_ok h01 h02 h12 lfp
    have fit0 := lfp.fit n0 m0
    have fit1 := lfp.fit n1 m1
    rw [rc0] at fit0
    rw [rc1] at fit1
    refine ⟨_, rfl, _, rfl, l, _, 0, .str n0, rfl, rfl, SqL.of elF, rfl, pF, .int (x n0), rfl, ?_, ?_⟩
    · have z := rec_val (rv := fun s => V.int (x s)) m0
      rw [← z]
      exact DGet.k (k := Sum.inr n0) eF
    refine ⟨_, rfl, _, rfl, l, _, 1, .str n1, rfl, rfl, SqL.of elF, rfl, pF, .int (x n1), rfl, ?_, ?_⟩
    · have z := rec_val (rv := fun s => V.int (x s)) m1
      rw [← z]
      exact DGet.k (k := Sum.inr n1) eF
    refine ⟨_, rfl, x n0, rfl, _, rfl, ?_⟩
    refine iteF ⟨_, rfl, x n1, rfl, _, rfl, ?_⟩
    refine iteF ⟨_, rfl, _, rfl, _, rfl, _, rfl, _, rfl, (by show 3 ≤ sizeLine; decide), fun ML hML => ?_⟩
    have s6 := same_new hML (.lst [.int (x n0), .int (x n1), .int c])
    refine ⟨⟨l, ML, [n0, n1, n2], [x n0, x n1, c], rfl, fun y hy => ?_⟩, TD, v0, v1, t0, t1, x n0, x n1, rfl, s6 _ _ elF, upd_same, s6 _ _ eTF, rfl, rfl, laF0.mono (.of_same s6), laF1.mono (.of_same s6), tk0, tk1, hok, tbF.ext s6, fun HG frG tbG => ?_⟩
    · simp only [List.mem_cons, List.not_mem_nil, or_false] at hy
      rcases hy with e | e | e
      · rw [e]; exact r0
      · rw [e]; exact r1
      · rw [e]; exact ⟨hcl, hch⟩
    rw [decide_eq_true (show ev (atF [n0, n1, n2] [x n0, x n1, c]) t0 = x n0 ∧ ev (atF [n0, n1, n2] [x n0, x n1, c]) t1 = x n1 from by rw [← px]; exact ⟨fit0.symm, fit1.symm⟩)]
    refine ⟨_, rfl, ?_⟩
    refine iteF ?_
    have frFG : FrX HF HG := fun b o hb ht => frG _ _ (s6 _ _ hb) ht
    refine ⟨_, rfl, _, _, rfl, rfl, x n0 + 1, rfl, by omega, by omega, ?_⟩
    refine for_range (lo := 0) (n := (x n0 + 1).toNat) (fun i σ H' => ∃ v10 v11 : Option V, σ = [some (.ref a), some (.ref l), some (.int c), v3, some (.ref TD), some (.ref WD), none, some (.ref pF), some (.int (x n0)), some (.int (x n1)), v10, v11] ∧ FrX HF H' ∧ LamX.Tabs [(T2, QF)] H') ⟨_, _, rfl, frFG, tbG⟩ ?_ ?_
    · rintro i σ HA hi ⟨v10, v11, rfl, frA, tbA⟩
      refine ⟨_, rfl, _, _, rfl, rfl, x n1 + 1, rfl, by omega, by omega, ?_⟩
      refine for_range (lo := 0) (n := (x n1 + 1).toNat) (fun j σ H' => ∃ v11 : Option V, σ = [some (.ref a), some (.ref l), some (.int c), v3, some (.ref TD), some (.ref WD), none, some (.ref pF), some (.int (x n0)), some (.int (x n1)), some (.int (0 + (i : Int))), v11] ∧ FrX HF H' ∧ LamX.Tabs [(T2, QF)] H') ⟨_, rfl, frA, tbA⟩ ?_ ?_
      · rintro j σ HB hj ⟨v11, rfl, frB, tbB⟩
        refine ⟨_, rfl, _, rfl, _, _, rfl, rfl, _, rfl, _, rfl, _, _, rfl, rfl, _, _, rfl, rfl, _, rfl, ?_⟩
        refine ite2 (fun lt => ?_) (fun _ => ⟨_, rfl, frB, tbB⟩)
        refine ⟨_, rfl, _, rfl, _, rfl, _, rfl, _, rfl, (by show 3 ≤ sizeLine; decide), fun MB hMB => ?_⟩
        have s7 := same_new hMB (.lst [.int (0 + (i : Int)), .int (0 + (j : Int)), .int c])
        have elB := frB _ _ elF (fun _ z => by cases z)
        have eTB := frB _ _ eTF (fun _ z => by cases z)
        have kpB : Keep HF HB := ⟨fun b xs hb => frB b _ hb (fun _ z => by cases z), fun b a r hb => frB b _ hb (fun _ z => by cases z)⟩
        refine ⟨⟨l, MB, [n0, n1, n2], [0 + (i : Int), 0 + (j : Int), c], rfl, fun y hy => ?_⟩, TD, v0, v1, t0, t1, 0 + (i : Int), 0 + (j : Int), rfl, s7 _ _ elB, upd_same, s7 _ _ eTB, rfl, rfl, (laF0.mono kpB).mono (.of_same s7), (laF1.mono kpB).mono (.of_same s7), tk0, tk1, hok, tbB.ext s7, fun HC frC tbC => ?_⟩
        · simp only [List.mem_cons, List.not_mem_nil, or_false] at hy
          rcases hy with e | e | e
          · rw [e]; omega
          · rw [e]; omega
          · rw [e]; exact ⟨hcl, hch⟩
        have no : ¬ (ev (atF [n0, n1, n2] [0 + (i : Int), 0 + (j : Int), c]) t0 = 0 + (i : Int) ∧ ev (atF [n0, n1, n2] [0 + (i : Int), 0 + (j : Int), c]) t1 = 0 + (j : Int)) := fun ⟨f0, f1⟩ => by
          have := pair_low h01 h02 h12 lfp hcl (l := 0 + (i : Int)) (r := 0 + (j : Int)) (by omega) (by omega) (by rw [rc0]; exact f0) (by rw [rc1]; exact f1)
          have lt' := of_decide_eq_true lt
          omega
        rw [decide_eq_false no]
        exact ⟨_, rfl, iteF ⟨_, rfl, fun b o hb ht => frC _ _ (s7 _ _ (frB b o hb ht)) ht, tbC⟩⟩
      · rintro σ HB ⟨v11, rfl, frB, tbB⟩
        exact ⟨_, _, rfl, frB, tbB⟩
    · rintro σ HA ⟨v10, v11, rfl, frA, tbA⟩
      exact q HA
end
end Aw

namespace Aw
open PySem L2
set_option maxHeartbeats 0 in
theorem all_mk {l : PySem.W.OpenLaw} {w : World} {K : PySem.W.Frag} {h : Heap} {mg : Str → Option Value} {fa C : Addr} (X : K.In h) (G : h.Ns mainGlobals mg) (hfa : mg "law" = some (.ref fa)) {ts : List Addr} (hts : ∀ P ∈ ts, h.get? P = some (PySem.W.tabObj #[]))
    {f_number_piece : Addr} {od_number_piece an_number_piece : Option Addr} {sl_number_piece : Array (Option Value)} {oc_number_piece kV_number_piece dc_number_piece pm_number_piece cd_number_piece ct_number_piece : Value}
    {f_name_piece : Addr} {od_name_piece an_name_piece : Option Addr} {sl_name_piece : Array (Option Value)} {oc_name_piece kV_name_piece dc_name_piece pm_name_piece cd_name_piece ct_name_piece : Value}
    {f_gate_piece : Addr} {od_gate_piece an_gate_piece : Option Addr} {sl_gate_piece : Array (Option Value)} {oc_gate_piece kV_gate_piece dc_gate_piece pm_gate_piece cd_gate_piece ct_gate_piece : Value}
    {f_joined_piece : Addr} {od_joined_piece an_joined_piece : Option Addr} {sl_joined_piece : Array (Option Value)} {oc_joined_piece kV_joined_piece dc_joined_piece pm_joined_piece cd_joined_piece ct_joined_piece : Value}
    {f_answer_of : Addr} {od_answer_of an_answer_of : Option Addr} {sl_answer_of : Array (Option Value)} {oc_answer_of kV_answer_of dc_answer_of pm_answer_of cd_answer_of ct_answer_of : Value}
    {f_gate_answer : Addr} {od_gate_answer an_gate_answer : Option Addr} {sl_gate_answer : Array (Option Value)} {oc_gate_answer kV_gate_answer dc_gate_answer pm_gate_answer cd_gate_answer ct_gate_answer : Value}
    {f_least_answer : Addr} {od_least_answer an_least_answer : Option Addr} {sl_least_answer : Array (Option Value)} {oc_least_answer kV_least_answer dc_least_answer pm_least_answer cd_least_answer ct_least_answer : Value}
    {f_Words_init : Addr} {od_Words_init an_Words_init : Option Addr} {sl_Words_init : Array (Option Value)} {oc_Words_init kV_Words_init dc_Words_init pm_Words_init cd_Words_init ct_Words_init : Value}
    {f_Words_ahead : Addr} {od_Words_ahead an_Words_ahead : Option Addr} {sl_Words_ahead : Array (Option Value)} {oc_Words_ahead kV_Words_ahead dc_Words_ahead pm_Words_ahead cd_Words_ahead ct_Words_ahead : Value}
    {f_Words_taken : Addr} {od_Words_taken an_Words_taken : Option Addr} {sl_Words_taken : Array (Option Value)} {oc_Words_taken kV_Words_taken dc_Words_taken pm_Words_taken cd_Words_taken ct_Words_taken : Value}
    {f_Words_expect : Addr} {od_Words_expect an_Words_expect : Option Addr} {sl_Words_expect : Array (Option Value)} {oc_Words_expect kV_Words_expect dc_Words_expect pm_Words_expect cd_Words_expect ct_Words_expect : Value}
    {f_read : Addr} {od_read an_read : Option Addr} {sl_read : Array (Option Value)} {oc_read kV_read dc_read pm_read cd_read ct_read : Value}
    {f_words_of : Addr} {od_words_of an_words_of : Option Addr} {sl_words_of : Array (Option Value)} {oc_words_of kV_words_of dc_words_of pm_words_of cd_words_of ct_words_of : Value}
    {f_kind_of : Addr} {od_kind_of an_kind_of : Option Addr} {sl_kind_of : Array (Option Value)} {oc_kind_of kV_kind_of dc_kind_of pm_kind_of cd_kind_of ct_kind_of : Value}
    {f_read_level : Addr} {od_read_level an_read_level : Option Addr} {sl_read_level : Array (Option Value)} {oc_read_level kV_read_level dc_read_level pm_read_level cd_read_level ct_read_level : Value}
    {f_read_piece : Addr} {od_read_piece an_read_piece : Option Addr} {sl_read_piece : Array (Option Value)} {oc_read_piece kV_read_piece dc_read_piece pm_read_piece cd_read_piece ct_read_piece : Value}
    {f_read_gate : Addr} {od_read_gate an_read_gate : Option Addr} {sl_read_gate : Array (Option Value)} {oc_read_gate kV_read_gate dc_read_gate pm_read_gate cd_read_gate ct_read_gate : Value}
    {f_is_name : Addr} {od_is_name an_is_name : Option Addr} {sl_is_name : Array (Option Value)} {oc_is_name kV_is_name dc_is_name pm_is_name cd_is_name ct_is_name : Value}
    {f_number_of : Addr} {od_number_of an_number_of : Option Addr} {sl_number_of : Array (Option Value)} {oc_number_of kV_number_of dc_number_of pm_number_of cd_number_of ct_number_of : Value}
    {f_least : Addr} {od_least an_least : Option Addr} {sl_least : Array (Option Value)} {oc_least kV_least dc_least pm_least cd_least ct_least : Value}
    {f_changed : Addr} {od_changed an_changed : Option Addr} {sl_changed : Array (Option Value)} {oc_changed kV_changed dc_changed pm_changed ct_changed : Value}
    {f_law_cell_at : Addr} {od_law_cell_at an_law_cell_at : Option Addr} {sl_law_cell_at : Array (Option Value)} {oc_law_cell_at kV_law_cell_at dc_law_cell_at pm_law_cell_at cd_law_cell_at ct_law_cell_at : Value}
    {f_law_dice : Addr} {od_law_dice an_law_dice : Option Addr} {sl_law_dice : Array (Option Value)} {oc_law_dice kV_law_dice dc_law_dice pm_law_dice cd_law_dice ct_law_dice : Value}
    {f_law_roll : Addr} {od_law_roll an_law_roll : Option Addr} {sl_law_roll : Array (Option Value)} {oc_law_roll kV_law_roll dc_law_roll pm_law_roll cd_law_roll ct_law_roll : Value}
    {f_law_names : Addr} {od_law_names an_law_names : Option Addr} {sl_law_names : Array (Option Value)} {oc_law_names kV_law_names dc_law_names pm_law_names cd_law_names ct_law_names : Value}
    {f_law_tree : Addr} {od_law_tree an_law_tree : Option Addr} {sl_law_tree : Array (Option Value)} {oc_law_tree kV_law_tree dc_law_tree pm_law_tree cd_law_tree ct_law_tree : Value}
    {f_law_answer : Addr} {od_law_answer an_law_answer : Option Addr} {sl_law_answer : Array (Option Value)} {oc_law_answer kV_law_answer dc_law_answer pm_law_answer cd_law_answer ct_law_answer : Value}
    {f_law_written : Addr} {od_law_written an_law_written : Option Addr} {sl_law_written : Array (Option Value)} {oc_law_written kV_law_written dc_law_written pm_law_written cd_law_written ct_law_written : Value}
    {f_law_whole : Addr} {od_law_whole an_law_whole : Option Addr} {sl_law_whole : Array (Option Value)} {oc_law_whole kV_law_whole dc_law_whole pm_law_whole cd_law_whole ct_law_whole : Value}
    {f_law_fits : Addr} {od_law_fits an_law_fits : Option Addr} {sl_law_fits : Array (Option Value)} {oc_law_fits kV_law_fits dc_law_fits pm_law_fits ct_law_fits : Value}
    {f_law_refused : Addr} {od_law_refused an_law_refused : Option Addr} {sl_law_refused : Array (Option Value)} {oc_law_refused kV_law_refused dc_law_refused pm_law_refused cd_law_refused ct_law_refused : Value}
    {f_law : Addr} {od_law an_law : Option Addr} {sl_law : Array (Option Value)} {oc_law kV_law dc_law pm_law cd_law ct_law : Value}
    {tk1 tk2 tk3 tk4 tk5 tk6 tk7 tk8 tk9 tl1 tl2 tl3 tg1 tg2 tg3 : Tok} {aL aS : Addr} {odL : Option Addr} {nL nS : Nat} {slL : Array (Option Value)} {esS : Array DictEntry}
    {NN HE : Addr}
    {cc_changed pp_changed : Addr} {odC_changed : Option Addr} {vsC_changed : Array Value} {slC_changed : Array (Option Value)}
    {cc_law_fits pp_law_fits : Addr} {odC_law_fits : Option Addr} {vsC_law_fits : Array Value} {slC_law_fits : Array (Option Value)}
    (a_number_piece : PySem.W.nsIn K mainGlobals "number_piece" = some (some (.ref f_number_piece)))
    (l_number_piece : K.lookup f_number_piece = some ⟨oc_number_piece, od_number_piece, .func (PySem.W.fnOf "number_piece" "number_piece" (defArgs s_number_piece) (defBody s_number_piece) (defScope s_number_piece) .none kV_number_piece dc_number_piece pm_number_piece an_number_piece cd_number_piece ct_number_piece), sl_number_piece⟩) (c_number_piece : PySem.W.codeIn K cd_number_piece "number_piece" = true) (k_number_piece : PySem.W.keepIn K (.ref f_number_piece) = true)
    (a_name_piece : PySem.W.nsIn K mainGlobals "name_piece" = some (some (.ref f_name_piece)))
    (l_name_piece : K.lookup f_name_piece = some ⟨oc_name_piece, od_name_piece, .func (PySem.W.fnOf "name_piece" "name_piece" (defArgs s_name_piece) (defBody s_name_piece) (defScope s_name_piece) .none kV_name_piece dc_name_piece pm_name_piece an_name_piece cd_name_piece ct_name_piece), sl_name_piece⟩) (c_name_piece : PySem.W.codeIn K cd_name_piece "name_piece" = true) (k_name_piece : PySem.W.keepIn K (.ref f_name_piece) = true)
    (a_gate_piece : PySem.W.nsIn K mainGlobals "gate_piece" = some (some (.ref f_gate_piece)))
    (l_gate_piece : K.lookup f_gate_piece = some ⟨oc_gate_piece, od_gate_piece, .func (PySem.W.fnOf "gate_piece" "gate_piece" (defArgs s_gate_piece) (defBody s_gate_piece) (defScope s_gate_piece) .none kV_gate_piece dc_gate_piece pm_gate_piece an_gate_piece cd_gate_piece ct_gate_piece), sl_gate_piece⟩) (c_gate_piece : PySem.W.codeIn K cd_gate_piece "gate_piece" = true) (k_gate_piece : PySem.W.keepIn K (.ref f_gate_piece) = true)
    (a_joined_piece : PySem.W.nsIn K mainGlobals "joined_piece" = some (some (.ref f_joined_piece)))
    (l_joined_piece : K.lookup f_joined_piece = some ⟨oc_joined_piece, od_joined_piece, .func (PySem.W.fnOf "joined_piece" "joined_piece" (defArgs s_joined_piece) (defBody s_joined_piece) (defScope s_joined_piece) .none kV_joined_piece dc_joined_piece pm_joined_piece an_joined_piece cd_joined_piece ct_joined_piece), sl_joined_piece⟩) (c_joined_piece : PySem.W.codeIn K cd_joined_piece "joined_piece" = true) (k_joined_piece : PySem.W.keepIn K (.ref f_joined_piece) = true)
    (a_answer_of : PySem.W.nsIn K mainGlobals "answer_of" = some (some (.ref f_answer_of)))
    (l_answer_of : K.lookup f_answer_of = some ⟨oc_answer_of, od_answer_of, .func (PySem.W.fnOf "answer_of" "answer_of" (defArgs s_answer_of) (defBody s_answer_of) (defScope s_answer_of) .none kV_answer_of dc_answer_of pm_answer_of an_answer_of cd_answer_of ct_answer_of), sl_answer_of⟩) (c_answer_of : PySem.W.codeIn K cd_answer_of "answer_of" = true) (k_answer_of : PySem.W.keepIn K (.ref f_answer_of) = true)
    (a_gate_answer : PySem.W.nsIn K mainGlobals "gate_answer" = some (some (.ref f_gate_answer)))
    (l_gate_answer : K.lookup f_gate_answer = some ⟨oc_gate_answer, od_gate_answer, .func (PySem.W.fnOf "gate_answer" "gate_answer" (defArgs s_gate_answer) (defBody s_gate_answer) (defScope s_gate_answer) .none kV_gate_answer dc_gate_answer pm_gate_answer an_gate_answer cd_gate_answer ct_gate_answer), sl_gate_answer⟩) (c_gate_answer : PySem.W.codeIn K cd_gate_answer "gate_answer" = true) (k_gate_answer : PySem.W.keepIn K (.ref f_gate_answer) = true)
    (a_least_answer : PySem.W.nsIn K mainGlobals "least_answer" = some (some (.ref f_least_answer)))
    (l_least_answer : K.lookup f_least_answer = some ⟨oc_least_answer, od_least_answer, .func (PySem.W.fnOf "least_answer" "least_answer" (defArgs s_least_answer) (defBody s_least_answer) (defScope s_least_answer) .none kV_least_answer dc_least_answer pm_least_answer an_least_answer cd_least_answer ct_least_answer), sl_least_answer⟩) (c_least_answer : PySem.W.codeIn K cd_least_answer "least_answer" = true) (k_least_answer : PySem.W.keepIn K (.ref f_least_answer) = true)
    (a_Words_init : PySem.W.findIn K (.ref C) "__init__" = some (some (.ref f_Words_init))) (i_Words_init : PySem.W.isFn K (.ref f_Words_init) = true)
    (l_Words_init : K.lookup f_Words_init = some ⟨oc_Words_init, od_Words_init, .func (PySem.W.fnOf "__init__" "Words.__init__" (defArgs s_Words_init) (defBody s_Words_init) (defScope s_Words_init) .none kV_Words_init dc_Words_init pm_Words_init an_Words_init cd_Words_init ct_Words_init), sl_Words_init⟩) (c_Words_init : PySem.W.codeIn K cd_Words_init "Words.__init__" = true) (k_Words_init : PySem.W.keepIn K (.ref f_Words_init) = true)
    (a_Words_ahead : PySem.W.findIn K (.ref C) "ahead" = some (some (.ref f_Words_ahead))) (i_Words_ahead : PySem.W.isFn K (.ref f_Words_ahead) = true)
    (l_Words_ahead : K.lookup f_Words_ahead = some ⟨oc_Words_ahead, od_Words_ahead, .func (PySem.W.fnOf "ahead" "Words.ahead" (defArgs s_Words_ahead) (defBody s_Words_ahead) (defScope s_Words_ahead) .none kV_Words_ahead dc_Words_ahead pm_Words_ahead an_Words_ahead cd_Words_ahead ct_Words_ahead), sl_Words_ahead⟩) (c_Words_ahead : PySem.W.codeIn K cd_Words_ahead "Words.ahead" = true) (k_Words_ahead : PySem.W.keepIn K (.ref f_Words_ahead) = true)
    (a_Words_taken : PySem.W.findIn K (.ref C) "taken" = some (some (.ref f_Words_taken))) (i_Words_taken : PySem.W.isFn K (.ref f_Words_taken) = true)
    (l_Words_taken : K.lookup f_Words_taken = some ⟨oc_Words_taken, od_Words_taken, .func (PySem.W.fnOf "taken" "Words.taken" (defArgs s_Words_taken) (defBody s_Words_taken) (defScope s_Words_taken) .none kV_Words_taken dc_Words_taken pm_Words_taken an_Words_taken cd_Words_taken ct_Words_taken), sl_Words_taken⟩) (c_Words_taken : PySem.W.codeIn K cd_Words_taken "Words.taken" = true) (k_Words_taken : PySem.W.keepIn K (.ref f_Words_taken) = true)
    (a_Words_expect : PySem.W.findIn K (.ref C) "expect" = some (some (.ref f_Words_expect))) (i_Words_expect : PySem.W.isFn K (.ref f_Words_expect) = true)
    (l_Words_expect : K.lookup f_Words_expect = some ⟨oc_Words_expect, od_Words_expect, .func (PySem.W.fnOf "expect" "Words.expect" (defArgs s_Words_expect) (defBody s_Words_expect) (defScope s_Words_expect) .none kV_Words_expect dc_Words_expect pm_Words_expect an_Words_expect cd_Words_expect ct_Words_expect), sl_Words_expect⟩) (c_Words_expect : PySem.W.codeIn K cd_Words_expect "Words.expect" = true) (k_Words_expect : PySem.W.keepIn K (.ref f_Words_expect) = true)
    (a_read : PySem.W.nsIn K mainGlobals "read" = some (some (.ref f_read)))
    (l_read : K.lookup f_read = some ⟨oc_read, od_read, .func (PySem.W.fnOf "read" "read" (defArgs s_read) (defBody s_read) (defScope s_read) .none kV_read dc_read pm_read an_read cd_read ct_read), sl_read⟩) (c_read : PySem.W.codeIn K cd_read "read" = true) (k_read : PySem.W.keepIn K (.ref f_read) = true)
    (a_words_of : PySem.W.nsIn K mainGlobals "words_of" = some (some (.ref f_words_of)))
    (l_words_of : K.lookup f_words_of = some ⟨oc_words_of, od_words_of, .func (PySem.W.fnOf "words_of" "words_of" (defArgs s_words_of) (defBody s_words_of) (defScope s_words_of) .none kV_words_of dc_words_of pm_words_of an_words_of cd_words_of ct_words_of), sl_words_of⟩) (c_words_of : PySem.W.codeIn K cd_words_of "words_of" = true) (k_words_of : PySem.W.keepIn K (.ref f_words_of) = true)
    (a_kind_of : PySem.W.nsIn K mainGlobals "kind_of" = some (some (.ref f_kind_of)))
    (l_kind_of : K.lookup f_kind_of = some ⟨oc_kind_of, od_kind_of, .func (PySem.W.fnOf "kind_of" "kind_of" (defArgs s_kind_of) (defBody s_kind_of) (defScope s_kind_of) .none kV_kind_of dc_kind_of pm_kind_of an_kind_of cd_kind_of ct_kind_of), sl_kind_of⟩) (c_kind_of : PySem.W.codeIn K cd_kind_of "kind_of" = true) (k_kind_of : PySem.W.keepIn K (.ref f_kind_of) = true)
    (a_read_level : PySem.W.nsIn K mainGlobals "read_level" = some (some (.ref f_read_level)))
    (l_read_level : K.lookup f_read_level = some ⟨oc_read_level, od_read_level, .func (PySem.W.fnOf "read_level" "read_level" (defArgs s_read_level) (defBody s_read_level) (defScope s_read_level) .none kV_read_level dc_read_level pm_read_level an_read_level cd_read_level ct_read_level), sl_read_level⟩) (c_read_level : PySem.W.codeIn K cd_read_level "read_level" = true) (k_read_level : PySem.W.keepIn K (.ref f_read_level) = true)
    (a_read_piece : PySem.W.nsIn K mainGlobals "read_piece" = some (some (.ref f_read_piece)))
    (l_read_piece : K.lookup f_read_piece = some ⟨oc_read_piece, od_read_piece, .func (PySem.W.fnOf "read_piece" "read_piece" (defArgs s_read_piece) (defBody s_read_piece) (defScope s_read_piece) .none kV_read_piece dc_read_piece pm_read_piece an_read_piece cd_read_piece ct_read_piece), sl_read_piece⟩) (c_read_piece : PySem.W.codeIn K cd_read_piece "read_piece" = true) (k_read_piece : PySem.W.keepIn K (.ref f_read_piece) = true)
    (a_read_gate : PySem.W.nsIn K mainGlobals "read_gate" = some (some (.ref f_read_gate)))
    (l_read_gate : K.lookup f_read_gate = some ⟨oc_read_gate, od_read_gate, .func (PySem.W.fnOf "read_gate" "read_gate" (defArgs s_read_gate) (defBody s_read_gate) (defScope s_read_gate) .none kV_read_gate dc_read_gate pm_read_gate an_read_gate cd_read_gate ct_read_gate), sl_read_gate⟩) (c_read_gate : PySem.W.codeIn K cd_read_gate "read_gate" = true) (k_read_gate : PySem.W.keepIn K (.ref f_read_gate) = true)
    (a_is_name : PySem.W.nsIn K mainGlobals "is_name" = some (some (.ref f_is_name)))
    (l_is_name : K.lookup f_is_name = some ⟨oc_is_name, od_is_name, .func (PySem.W.fnOf "is_name" "is_name" (defArgs s_is_name) (defBody s_is_name) (defScope s_is_name) .none kV_is_name dc_is_name pm_is_name an_is_name cd_is_name ct_is_name), sl_is_name⟩) (c_is_name : PySem.W.codeIn K cd_is_name "is_name" = true) (k_is_name : PySem.W.keepIn K (.ref f_is_name) = true)
    (a_number_of : PySem.W.nsIn K mainGlobals "number_of" = some (some (.ref f_number_of)))
    (l_number_of : K.lookup f_number_of = some ⟨oc_number_of, od_number_of, .func (PySem.W.fnOf "number_of" "number_of" (defArgs s_number_of) (defBody s_number_of) (defScope s_number_of) .none kV_number_of dc_number_of pm_number_of an_number_of cd_number_of ct_number_of), sl_number_of⟩) (c_number_of : PySem.W.codeIn K cd_number_of "number_of" = true) (k_number_of : PySem.W.keepIn K (.ref f_number_of) = true)
    (a_least : PySem.W.nsIn K mainGlobals "least" = some (some (.ref f_least)))
    (l_least : K.lookup f_least = some ⟨oc_least, od_least, .func (PySem.W.fnOf "least" "least" (defArgs s_least) (defBody s_least) (defScope s_least) .none kV_least dc_least pm_least an_least cd_least ct_least), sl_least⟩) (c_least : PySem.W.codeIn K cd_least "least" = true) (k_least : PySem.W.keepIn K (.ref f_least) = true)
    (a_changed : PySem.W.nsIn K mainGlobals "changed" = some (some (.ref f_changed)))
    (l_changed : K.lookup f_changed = some ⟨oc_changed, od_changed, .func (PySem.W.fnOf "changed" "changed" (defArgs s_changed) (defBody s_changed) (defScope s_changed) .none kV_changed dc_changed pm_changed an_changed (.ref cc_changed) ct_changed), sl_changed⟩) (c_changed : PySem.W.codeIn K (.ref cc_changed) "changed" = true) (k_changed : PySem.W.keepIn K (.ref f_changed) = true)
    (a_law_cell_at : PySem.W.nsIn K mainGlobals "_law_cell_at" = some (some (.ref f_law_cell_at)))
    (l_law_cell_at : K.lookup f_law_cell_at = some ⟨oc_law_cell_at, od_law_cell_at, .func (PySem.W.fnOf "_law_cell_at" "_law_cell_at" (defArgs s_law_cell_at) (defBody s_law_cell_at) (defScope s_law_cell_at) .none kV_law_cell_at dc_law_cell_at pm_law_cell_at an_law_cell_at cd_law_cell_at ct_law_cell_at), sl_law_cell_at⟩) (c_law_cell_at : PySem.W.codeIn K cd_law_cell_at "_law_cell_at" = true) (k_law_cell_at : PySem.W.keepIn K (.ref f_law_cell_at) = true)
    (a_law_dice : PySem.W.nsIn K mainGlobals "_law_dice" = some (some (.ref f_law_dice)))
    (l_law_dice : K.lookup f_law_dice = some ⟨oc_law_dice, od_law_dice, .func (PySem.W.fnOf "_law_dice" "_law_dice" (defArgs s_law_dice) (defBody s_law_dice) (defScope s_law_dice) .none kV_law_dice dc_law_dice pm_law_dice an_law_dice cd_law_dice ct_law_dice), sl_law_dice⟩) (c_law_dice : PySem.W.codeIn K cd_law_dice "_law_dice" = true) (k_law_dice : PySem.W.keepIn K (.ref f_law_dice) = true)
    (a_law_roll : PySem.W.nsIn K mainGlobals "_law_roll" = some (some (.ref f_law_roll)))
    (l_law_roll : K.lookup f_law_roll = some ⟨oc_law_roll, od_law_roll, .func (PySem.W.fnOf "_law_roll" "_law_roll" (defArgs s_law_roll) (defBody s_law_roll) (defScope s_law_roll) .none kV_law_roll dc_law_roll pm_law_roll an_law_roll cd_law_roll ct_law_roll), sl_law_roll⟩) (c_law_roll : PySem.W.codeIn K cd_law_roll "_law_roll" = true) (k_law_roll : PySem.W.keepIn K (.ref f_law_roll) = true)
    (a_law_names : PySem.W.nsIn K mainGlobals "_law_names" = some (some (.ref f_law_names)))
    (l_law_names : K.lookup f_law_names = some ⟨oc_law_names, od_law_names, .func (PySem.W.fnOf "_law_names" "_law_names" (defArgs s_law_names) (defBody s_law_names) (defScope s_law_names) .none kV_law_names dc_law_names pm_law_names an_law_names cd_law_names ct_law_names), sl_law_names⟩) (c_law_names : PySem.W.codeIn K cd_law_names "_law_names" = true) (k_law_names : PySem.W.keepIn K (.ref f_law_names) = true)
    (a_law_tree : PySem.W.nsIn K mainGlobals "_law_tree" = some (some (.ref f_law_tree)))
    (l_law_tree : K.lookup f_law_tree = some ⟨oc_law_tree, od_law_tree, .func (PySem.W.fnOf "_law_tree" "_law_tree" (defArgs s_law_tree) (defBody s_law_tree) (defScope s_law_tree) .none kV_law_tree dc_law_tree pm_law_tree an_law_tree cd_law_tree ct_law_tree), sl_law_tree⟩) (c_law_tree : PySem.W.codeIn K cd_law_tree "_law_tree" = true) (k_law_tree : PySem.W.keepIn K (.ref f_law_tree) = true)
    (a_law_answer : PySem.W.nsIn K mainGlobals "_law_answer" = some (some (.ref f_law_answer)))
    (l_law_answer : K.lookup f_law_answer = some ⟨oc_law_answer, od_law_answer, .func (PySem.W.fnOf "_law_answer" "_law_answer" (defArgs s_law_answer) (defBody s_law_answer) (defScope s_law_answer) .none kV_law_answer dc_law_answer pm_law_answer an_law_answer cd_law_answer ct_law_answer), sl_law_answer⟩) (c_law_answer : PySem.W.codeIn K cd_law_answer "_law_answer" = true) (k_law_answer : PySem.W.keepIn K (.ref f_law_answer) = true)
    (a_law_written : PySem.W.nsIn K mainGlobals "_law_written" = some (some (.ref f_law_written)))
    (l_law_written : K.lookup f_law_written = some ⟨oc_law_written, od_law_written, .func (PySem.W.fnOf "_law_written" "_law_written" (defArgs s_law_written) (defBody s_law_written) (defScope s_law_written) .none kV_law_written dc_law_written pm_law_written an_law_written cd_law_written ct_law_written), sl_law_written⟩) (c_law_written : PySem.W.codeIn K cd_law_written "_law_written" = true) (k_law_written : PySem.W.keepIn K (.ref f_law_written) = true)
    (a_law_whole : PySem.W.nsIn K mainGlobals "_law_whole" = some (some (.ref f_law_whole)))
    (l_law_whole : K.lookup f_law_whole = some ⟨oc_law_whole, od_law_whole, .func (PySem.W.fnOf "_law_whole" "_law_whole" (defArgs s_law_whole) (defBody s_law_whole) (defScope s_law_whole) .none kV_law_whole dc_law_whole pm_law_whole an_law_whole cd_law_whole ct_law_whole), sl_law_whole⟩) (c_law_whole : PySem.W.codeIn K cd_law_whole "_law_whole" = true) (k_law_whole : PySem.W.keepIn K (.ref f_law_whole) = true)
    (a_law_fits : PySem.W.nsIn K mainGlobals "_law_fits" = some (some (.ref f_law_fits)))
    (l_law_fits : K.lookup f_law_fits = some ⟨oc_law_fits, od_law_fits, .func (PySem.W.fnOf "_law_fits" "_law_fits" (defArgs s_law_fits) (defBody s_law_fits) (defScope s_law_fits) .none kV_law_fits dc_law_fits pm_law_fits an_law_fits (.ref cc_law_fits) ct_law_fits), sl_law_fits⟩) (c_law_fits : PySem.W.codeIn K (.ref cc_law_fits) "_law_fits" = true) (k_law_fits : PySem.W.keepIn K (.ref f_law_fits) = true)
    (a_law_refused : PySem.W.nsIn K mainGlobals "_law_refused" = some (some (.ref f_law_refused)))
    (l_law_refused : K.lookup f_law_refused = some ⟨oc_law_refused, od_law_refused, .func (PySem.W.fnOf "_law_refused" "_law_refused" (defArgs s_law_refused) (defBody s_law_refused) (defScope s_law_refused) .none kV_law_refused dc_law_refused pm_law_refused an_law_refused cd_law_refused ct_law_refused), sl_law_refused⟩) (c_law_refused : PySem.W.codeIn K cd_law_refused "_law_refused" = true) (k_law_refused : PySem.W.keepIn K (.ref f_law_refused) = true)
    (a_law : PySem.W.nsIn K mainGlobals "law" = some (some (.ref f_law)))
    (l_law : K.lookup f_law = some ⟨oc_law, od_law, .func (PySem.W.fnOf "law" "law" (defArgs s_law) (defBody s_law) (defScope s_law) .none kV_law dc_law pm_law an_law cd_law ct_law), sl_law⟩) (c_law : PySem.W.codeIn K cd_law "law" = true) (k_law : PySem.W.keepIn K (.ref f_law) = true)
    (aC : PySem.W.nsIn K mainGlobals "Words" = some (some (.ref C)))
    (pg : PySem.W.plainGet K C Str.empty = true)
    (hd : PySem.W.hasDictIn K C = true)
    (po : PySem.W.plainOver K C = true)
    (sa : PySem.W.findIn K (.ref C) "__setattr__" = some (some (.builtin "object.__setattr__")))
    (mk : PySem.W.makesIn K C = true)
    (kc : PySem.W.keepIn K (.ref C) = true)
    (nW : PySem.W.findIn K (.ref C) "words" = some none)
    (nA : PySem.W.findIn K (.ref C) "at" = some none)
    (aN : PySem.W.nsIn K mainGlobals "NoRecipe" = some (some (.ref N)))
    (xN : PySem.W.excIn K N [.type "ValueError", .type "Exception", .type "BaseException", .type "object"] "ValueError.__new__" = true)
    (kN : PySem.W.keepIn K (.ref N) = true)
    (bN : PySem.W.subIn K (.ref N) (.type "BaseException") = some true)
    (tN : PySem.W.typeIn K (.ref N) = some (.type "type"))
    (z_len : PySem.W.nsIn K mainGlobals "len" = some none)
    (z_range : PySem.W.nsIn K mainGlobals "range" = some none)
    (z_str : PySem.W.nsIn K mainGlobals "str" = some none)
    (z_all : PySem.W.nsIn K mainGlobals "all" = some none)
    (z_tuple : PySem.W.nsIn K mainGlobals "tuple" = some none)
    (z_int : PySem.W.nsIn K mainGlobals "int" = some none)
    (g1 : PySem.W.nsIn K mainGlobals "GREATEST" = some (some (.int 30 tk1)))
    (g2 : PySem.W.nsIn K mainGlobals "LETTERS" = some (some (.str "abcdefghijklmnopqrstuvwxyz" tk2)))
    (g3 : PySem.W.nsIn K mainGlobals "FIGURES" = some (some (.str "0123456789" tk3)))
    (g4 : PySem.W.nsIn K mainGlobals "OTHER_WORDS" = some (some (.str "+&|()[]" tk4)))
    (g5 : PySem.W.nsIn K mainGlobals "LONGEST_NAME" = some (some (.int 6 tk5)))
    (g6 : PySem.W.nsIn K mainGlobals "MOST_PIECES" = some (some (.int 8 tk6)))
    (g7 : PySem.W.nsIn K mainGlobals "MOST_WORDS" = some (some (.int 40 tk7)))
    (g8 : PySem.W.nsIn K mainGlobals "MOST_SIGNS" = some (some (.int 400 tk8)))
    (g9 : PySem.W.nsIn K mainGlobals "DEEPEST" = some (some (.int 2 tk9)))
    (gL : PySem.W.nsIn K mainGlobals "LEVELS" = some (some (.ref aL)))
    (lL : K.lookup aL = some ⟨.type "tuple", odL, .seq #[.str "most" tl1, .str "least" tl2, .str "sum" tl3] nL, slL⟩)
    (gS : PySem.W.nsIn K mainGlobals "SIGNS" = some (some (.ref aS)))
    (lS : K.lookup aS = some ⟨.type "dict", none, .dict esS nS, #[]⟩)
    (kS : PySem.W.KeysLit w.params esS.toList)
    (s1 : PySem.W.nsIn K aS "sum" = some (some (.str "+" tg1)))
    (s2 : PySem.W.nsIn K aS "least" = some (some (.str "&" tg2)))
    (s3 : PySem.W.nsIn K aS "most" = some (some (.str "|" tg3)))
    (z_isi : PySem.W.nsIn K mainGlobals "isinstance" = some none)
    (z_bool : PySem.W.nsIn K mainGlobals "bool" = some none)
    (z_min : PySem.W.nsIn K mainGlobals "min" = some none)
    (z_max : PySem.W.nsIn K mainGlobals "max" = some none)
    (z_sum : PySem.W.nsIn K mainGlobals "sum" = some none)
    (z_dict : PySem.W.nsIn K mainGlobals "dict" = some none)
    (aX_NoName : PySem.W.nsIn K mainGlobals "NoName" = some (some (.ref NN)))
    (tX_NoName : PySem.W.typeIn K (.ref NN) = some (.type "type"))
    (is_NoName : PySem.W.isClsIn K NN = true)
    (sb_N_NN : PySem.W.subIn K (.ref N) (.ref NN) = some false)
    (ne_N_NN : (Value.ref N == Value.ref NN) = false)
    (aX_HallError : PySem.W.nsIn K mainGlobals "HallError" = some (some (.ref HE)))
    (tX_HallError : PySem.W.typeIn K (.ref HE) = some (.type "type"))
    (is_HallError : PySem.W.isClsIn K HE = true)
    (sb_N_HE : PySem.W.subIn K (.ref N) (.ref HE) = some true)
    (ne_N_HE : (Value.ref N == Value.ref HE) = false)
    (sb_N_N : PySem.W.subIn K (.ref N) (.ref N) = some true)
    (is_NoRecipe : PySem.W.isClsIn K N = true)
    (cn_NoRecipe : PySem.W.specialIn K (.builtin "object.__class__") "__get__" = some (some (.builtin "getset_descriptor.__get__")))
    (ct_NoRecipe_ : PySem.W.takesIn K (.builtin "object.__class__") = some true)
    (cg_NoRecipe : PySem.W.findIn K (.ref N) "__getattribute__" = some (some (.builtin "BaseException.__getattribute__")))
    (ck_NoRecipe : PySem.W.findIn K (.ref N) "__getattr__" = some none)
    (cd_NoRecipe_ : PySem.W.hasDictIn K N = true)
    (ca_NoRecipe : PySem.W.findIn K (.ref N) "__class__" = some (some (.builtin "object.__class__")))
    (cm_NoRecipe : PySem.W.mroIn K N (.type "object") = some true)
    (lC_changed : K.lookup cc_changed = some ⟨.type "code", odC_changed, .fields vsC_changed, slC_changed⟩)
    (eP_changed : vsC_changed[11]? = some (.ref pp_changed))
    (tP_changed : PySem.W.codeHdIn K cc_changed pp_changed = true)
    (nP_changed : K.lookup pp_changed = none)
    (iP_changed : pp_changed ∈ ts)
    (lC_law_fits : K.lookup cc_law_fits = some ⟨.type "code", odC_law_fits, .fields vsC_law_fits, slC_law_fits⟩)
    (eP_law_fits : vsC_law_fits[11]? = some (.ref pp_law_fits))
    (tP_law_fits : PySem.W.codeHdIn K cc_law_fits pp_law_fits = true)
    (nP_law_fits : K.lookup pp_law_fits = none)
    (iP_law_fits : pp_law_fits ∈ ts)
    (nePL_law_fits_changed : pp_law_fits ≠ pp_changed)
    : LamX.LawAtS l w K CX0 30 63 "_law_script" mg fa h := by
  have e := hfa.symm.trans (PySem.W.mg_of X G a_law)
  cases e
  have F_number_piece := fun_mk (st := s_number_piece) l_number_piece c_number_piece k_number_piece
  have b_number_piece := F_number_piece.binds (ps := ["number"]) fun _ _ _ _ _ _ us hl => match us, hl with | [_], _ => rfl
  have F_name_piece := fun_mk (st := s_name_piece) l_name_piece c_name_piece k_name_piece
  have b_name_piece := F_name_piece.binds (ps := ["name"]) fun _ _ _ _ _ _ us hl => match us, hl with | [_], _ => rfl
  have F_gate_piece := fun_mk (st := s_gate_piece) l_gate_piece c_gate_piece k_gate_piece
  have b_gate_piece := F_gate_piece.binds (ps := ["name", "bound", "piece"]) fun _ _ _ _ _ _ us hl => match us, hl with | [_, _, _], _ => rfl
  have F_joined_piece := fun_mk (st := s_joined_piece) l_joined_piece c_joined_piece k_joined_piece
  have b_joined_piece := F_joined_piece.binds (ps := ["kind", "pieces"]) fun _ _ _ _ _ _ us hl => match us, hl with | [_, _], _ => rfl
  have F_answer_of := fun_mk (st := s_answer_of) l_answer_of c_answer_of k_answer_of
  have b_answer_of := F_answer_of.binds (ps := ["recipe", "ask"]) fun _ _ _ _ _ _ us hl => match us, hl with | [_, _], _ => rfl
  have F_gate_answer := fun_mk (st := s_gate_answer) l_gate_answer c_gate_answer k_gate_answer
  have b_gate_answer := F_gate_answer.binds (ps := ["recipe", "ask"]) fun _ _ _ _ _ _ us hl => match us, hl with | [_, _], _ => rfl
  have F_least_answer := fun_mk (st := s_least_answer) l_least_answer c_least_answer k_least_answer
  have b_least_answer := F_least_answer.binds (ps := ["pieces", "ask"]) fun _ _ _ _ _ _ us hl => match us, hl with | [_, _], _ => rfl
  have F_Words_init := fun_mk (st := s_Words_init) l_Words_init c_Words_init k_Words_init
  have b_Words_init := F_Words_init.binds (ps := ["self", "words"]) fun _ _ _ _ _ _ us hl => match us, hl with | [_, _], _ => rfl
  have F_Words_ahead := fun_mk (st := s_Words_ahead) l_Words_ahead c_Words_ahead k_Words_ahead
  have b_Words_ahead := F_Words_ahead.binds (ps := ["self"]) fun _ _ _ _ _ _ us hl => match us, hl with | [_], _ => rfl
  have F_Words_taken := fun_mk (st := s_Words_taken) l_Words_taken c_Words_taken k_Words_taken
  have b_Words_taken := F_Words_taken.binds (ps := ["self"]) fun _ _ _ _ _ _ us hl => match us, hl with | [_], _ => rfl
  have F_Words_expect := fun_mk (st := s_Words_expect) l_Words_expect c_Words_expect k_Words_expect
  have b_Words_expect := F_Words_expect.binds (ps := ["self", "word"]) fun _ _ _ _ _ _ us hl => match us, hl with | [_, _], _ => rfl
  have F_read := fun_mk (st := s_read) l_read c_read k_read
  have b_read := F_read.binds (ps := ["text"]) fun _ _ _ _ _ _ us hl => match us, hl with | [_], _ => rfl
  have F_words_of := fun_mk (st := s_words_of) l_words_of c_words_of k_words_of
  have b_words_of := F_words_of.binds (ps := ["text"]) fun _ _ _ _ _ _ us hl => match us, hl with | [_], _ => rfl
  have F_kind_of := fun_mk (st := s_kind_of) l_kind_of c_kind_of k_kind_of
  have b_kind_of := F_kind_of.binds (ps := ["sign"]) fun _ _ _ _ _ _ us hl => match us, hl with | [_], _ => rfl
  have F_read_level := fun_mk (st := s_read_level) l_read_level c_read_level k_read_level
  have b_read_level := F_read_level.binds (ps := ["reader", "level", "deep"]) fun _ _ _ _ _ _ us hl => match us, hl with | [_, _, _], _ => rfl
  have F_read_piece := fun_mk (st := s_read_piece) l_read_piece c_read_piece k_read_piece
  have b_read_piece := F_read_piece.binds (ps := ["reader", "deep"]) fun _ _ _ _ _ _ us hl => match us, hl with | [_, _], _ => rfl
  have F_read_gate := fun_mk (st := s_read_gate) l_read_gate c_read_gate k_read_gate
  have b_read_gate := F_read_gate.binds (ps := ["reader", "deep"]) fun _ _ _ _ _ _ us hl => match us, hl with | [_, _], _ => rfl
  have F_is_name := fun_mk (st := s_is_name) l_is_name c_is_name k_is_name
  have b_is_name := F_is_name.binds (ps := ["text"]) fun _ _ _ _ _ _ us hl => match us, hl with | [_], _ => rfl
  have F_number_of := fun_mk (st := s_number_of) l_number_of c_number_of k_number_of
  have b_number_of := F_number_of.binds (ps := ["word", "lowest"]) fun _ _ _ _ _ _ us hl => match us, hl with | [_, _], _ => rfl
  have F_least := fun_mk (st := s_least) l_least c_least k_least
  have b_least := F_least.binds (ps := ["wells", "works"]) fun _ _ _ _ _ _ us hl => match us, hl with | [_, _], _ => rfl
  have F_changed := fun_mk (st := s_changed) l_changed c_changed k_changed
  have b_changed := F_changed.binds (ps := ["recipes", "stands"]) fun _ _ _ _ _ _ us hl => match us, hl with | [_, _], _ => rfl
  have F_law_cell_at := fun_mk (st := s_law_cell_at) l_law_cell_at c_law_cell_at k_law_cell_at
  have b_law_cell_at := F_law_cell_at.binds (ps := ["_law_script", "_law_k"]) fun _ _ _ _ _ _ us hl => match us, hl with | [_, _], _ => rfl
  have F_law_dice := fun_mk (st := s_law_dice) l_law_dice c_law_dice k_law_dice
  have b_law_dice := F_law_dice.binds (ps := ["_law_cell"]) fun _ _ _ _ _ _ us hl => match us, hl with | [_], _ => rfl
  have F_law_roll := fun_mk (st := s_law_roll) l_law_roll c_law_roll k_law_roll
  have b_law_roll := F_law_roll.binds (ps := ["_law_dice_here", "_law_most"]) fun _ _ _ _ _ _ us hl => match us, hl with | [_, _], _ => rfl
  have F_law_names := fun_mk (st := s_law_names) l_law_names c_law_names k_law_names
  have b_law_names := F_law_names.binds (ps := ["_law_cell", "_law_many"]) fun _ _ _ _ _ _ us hl => match us, hl with | [_, _], _ => rfl
  have F_law_tree := fun_mk (st := s_law_tree) l_law_tree c_law_tree k_law_tree
  have b_law_tree := F_law_tree.binds (ps := ["_law_dice_here", "_law_names_here", "_law_deep"]) fun _ _ _ _ _ _ us hl => match us, hl with | [_, _, _], _ => rfl
  have F_law_answer := fun_mk (st := s_law_answer) l_law_answer c_law_answer k_law_answer
  have b_law_answer := F_law_answer.binds (ps := ["_law_tree_here", "_law_ask"]) fun _ _ _ _ _ _ us hl => match us, hl with | [_, _], _ => rfl
  have F_law_written := fun_mk (st := s_law_written) l_law_written c_law_written k_law_written
  have b_law_written := F_law_written.binds (ps := ["_law_tree_here", "_law_firm"]) fun _ _ _ _ _ _ us hl => match us, hl with | [_, _], _ => rfl
  have F_law_whole := fun_mk (st := s_law_whole) l_law_whole c_law_whole k_law_whole
  have b_law_whole := F_law_whole.binds (ps := ["_law_found"]) fun _ _ _ _ _ _ us hl => match us, hl with | [_], _ => rfl
  have F_law_fits := fun_mk (st := s_law_fits) l_law_fits c_law_fits k_law_fits
  have b_law_fits := F_law_fits.binds (ps := ["_law_names_here", "_law_trees", "_law_numbers"]) fun _ _ _ _ _ _ us hl => match us, hl with | [_, _, _], _ => rfl
  have F_law_refused := fun_mk (st := s_law_refused) l_law_refused c_law_refused k_law_refused
  have b_law_refused := F_law_refused.binds (ps := ["_law_wells", "_law_works"]) fun _ _ _ _ _ _ us hl => match us, hl with | [_, _], _ => rfl
  have F_law := fun_mk (st := s_law) l_law c_law k_law
  have b_law := F_law.binds (ps := ["_law_script"]) fun _ _ _ _ _ _ us hl => match us, hl with | [_], _ => rfl
  have T : Txt K mg C N := ⟨⟨pg, hd, po, sa⟩, nW, nA, PySem.W.mg_of X G aC, xN, PySem.W.mg_of X G aN, kN, bN, tN, PySem.W.mg_none_of X G z_len, PySem.W.mg_none_of X G z_range, PySem.W.mg_none_of X G z_str, PySem.W.mg_none_of X G z_all, PySem.W.mg_none_of X G z_tuple,
    ⟨_, PySem.W.mg_of X G g1⟩, ⟨_, PySem.W.mg_of X G g2⟩, ⟨_, PySem.W.mg_of X G g3⟩, ⟨_, PySem.W.mg_of X G g4⟩, ⟨_, PySem.W.mg_of X G g5⟩, ⟨_, PySem.W.mg_of X G g6⟩, ⟨_, PySem.W.mg_of X G g7⟩, ⟨_, PySem.W.mg_of X G g8⟩, ⟨_, PySem.W.mg_of X G g9⟩⟩
  have TC : TxtC K mg w := ⟨⟨aL, PySem.W.mg_of X G gL, fun H => .inr ⟨_, _, _, lL, rfl, rfl, (by show 3 ≤ sizeLine; decide), .cons ⟨_, rfl⟩ (.cons ⟨_, rfl⟩ (.cons ⟨_, rfl⟩ .nil))⟩⟩,
    ⟨aS, PySem.W.mg_of X G gS, fun k => by
      cases k
      · exact ⟨esS, nS, _, lS, kS, s1, ⟨_, rfl⟩⟩
      · exact ⟨esS, nS, _, lS, kS, s2, ⟨_, rfl⟩⟩
      · exact ⟨esS, nS, _, lS, kS, s3, ⟨_, rfl⟩⟩⟩⟩
  have TL : TxtL K mg := ⟨PySem.W.mg_none_of X G z_len, PySem.W.mg_none_of X G z_int, PySem.W.mg_none_of X G z_range, PySem.W.mg_none_of X G z_str⟩
  refine ⟨PySem.W.fnOf "law" "law" (defArgs s_law) (defBody s_law) (defScope s_law) .none kV_law dc_law pm_law an_law cd_law ct_law, [(cc_changed, pp_changed), (cc_law_fits, pp_law_fits)], spLaw9 K pp_changed pp_law_fits,
    (by intro p hp; rcases List.mem_cons.mp hp with z | z; (rw [z]; exact hts _ iP_changed); (rw [List.mem_singleton.mp z]; exact hts _ iP_law_fits)), (by intro p hp; rcases List.mem_cons.mp hp with z | z; (rw [z]; exact nP_changed); (rw [List.mem_singleton.mp z]; exact nP_law_fits)),
    (by intro p hp; rcases List.mem_cons.mp hp with z | z; (rw [z]; exact PySem.W.codeHd_of_K X tP_changed); (rw [List.mem_singleton.mp z]; exact PySem.W.codeHd_of_K X tP_law_fits)), (fun s v => .of_eq rfl),
    (fun H a ns hl _ hT hS => ⟨a, ns, rfl, hS, hl, hT (cc_changed, pp_changed) List.mem_cons_self, hT (cc_law_fits, pp_law_fits) (List.mem_cons_of_mem _ List.mem_cons_self), fun _ => rfl⟩), fun base _ _ hTB => ?_⟩
  have GA : FnOk l.prog w K mg base CX0 1 f_Words_ahead _ ["self"] (spAhead C) := ok_ahead F_Words_ahead T
  have GT : FnOk l.prog w K mg base CX0 2 f_Words_taken _ ["self"] (spTaken C) := ok_taken F_Words_taken T F_Words_ahead b_Words_ahead ⟨a_Words_ahead, i_Words_ahead, k_Words_ahead⟩
  have GX : FnOk l.prog w K mg base (L2.CX l.prog w) 3 f_Words_expect _ ["self", "word"] (spExpect C N) := ok_expect F_Words_expect T GT b_Words_taken ⟨a_Words_taken, i_Words_taken, k_Words_taken⟩
  have LO : Low l.prog w K mg base C N := ⟨⟨_, _, GA, b_Words_ahead, ⟨a_Words_ahead, i_Words_ahead, k_Words_ahead⟩⟩, ⟨_, _, GT, b_Words_taken, ⟨a_Words_taken, i_Words_taken, k_Words_taken⟩⟩, ⟨_, _, GX, b_Words_expect, ⟨a_Words_expect, i_Words_expect, k_Words_expect⟩⟩,
    ⟨_, _, ok_name F_is_name T, b_is_name, k_is_name, PySem.W.mg_of X G a_is_name⟩, ⟨_, _, ok_number F_number_of T, b_number_of, k_number_of, PySem.W.mg_of X G a_number_of⟩,
    ⟨_, _, ok_numP F_number_piece, b_number_piece, k_number_piece, PySem.W.mg_of X G a_number_piece⟩, ⟨_, _, ok_nameP F_name_piece, b_name_piece, k_name_piece, PySem.W.mg_of X G a_name_piece⟩,
    ⟨_, _, ok_gateP F_gate_piece, b_gate_piece, k_gate_piece, PySem.W.mg_of X G a_gate_piece⟩, ⟨_, _, ok_joinP F_joined_piece T.tup, b_joined_piece, k_joined_piece, PySem.W.mg_of X G a_joined_piece⟩⟩
  have RE : Rec K mg f_read_level f_read_piece f_read_gate _ _ _ := ⟨F_read_level, F_read_piece, F_read_gate, b_read_level, b_read_piece, b_read_gate, PySem.W.mg_of X G a_read_level, PySem.W.mg_of X G a_read_piece, PySem.W.mg_of X G a_read_gate⟩
  have GK : FnOk l.prog w K mg base (L2.CX l.prog w) 1 f_kind_of _ ["sign"] (spKind N) := ok_kind F_kind_of T
  have GW : FnOk l.prog w K mg base (L2.CX l.prog w) 2 f_words_of _ ["text"] (spWords N) := ok_words F_words_of T GK b_kind_of k_kind_of (PySem.W.mg_of X G a_kind_of)
  have GI : FnOk l.prog w K mg base CX0 1 f_Words_init _ ["self", "words"] (spInit C) := ok_Winit F_Words_init T
  have GR : FnOk l.prog w K mg base (L2.CX l.prog w) 27 f_read _ ["text"] (spRead N) := ok_read F_read T TC LO RE ⟨mk, a_Words_init, i_Words_init, kc⟩ GI b_Words_init GW b_words_of k_words_of (PySem.W.mg_of X G a_words_of)
  have Gro : FnOk l.prog w K mg base CX0 1 f_law_roll _ ["_law_dice_here", "_law_most"] spRoll := ok_roll F_law_roll
  have Gt0 : FnOk l.prog w K mg base CX0 2 f_law_tree _ ["_law_dice_here", "_law_names_here", "_law_deep"] (spTree K 0) := ok_tree0 F_law_tree TL Gro b_law_roll k_law_roll (PySem.W.mg_of X G a_law_roll)
  have Gt1 : FnOk l.prog w K mg base CX0 3 f_law_tree _ ["_law_dice_here", "_law_names_here", "_law_deep"] (spTree K 1) := ok_treeS (by decide) F_law_tree TL Gro b_law_roll k_law_roll (PySem.W.mg_of X G a_law_roll) Gt0 b_law_tree (PySem.W.mg_of X G a_law_tree)
  have Gw0 : FnOk l.prog w K mg base CX0 1 f_law_written _ ["_law_tree_here", "_law_firm"] (spWritten 0) := ok_written0 F_law_written TL
  have Gw1 : FnOk l.prog w K mg base CX0 2 f_law_written _ ["_law_tree_here", "_law_firm"] (spWritten 1) := ok_writtenS (by decide) (by decide) F_law_written TL Gw0 b_law_written (PySem.W.mg_of X G a_law_written)
  have TA' : TxtA mg := ⟨PySem.W.mg_none_of X G z_min, PySem.W.mg_none_of X G z_max, PySem.W.mg_none_of X G z_sum, ⟨_, PySem.W.mg_of X G g1⟩⟩
  have AN : AnD K mg f_answer_of f_gate_answer f_least_answer _ _ _ := ⟨F_answer_of, F_gate_answer, F_least_answer, b_answer_of, b_gate_answer, b_least_answer, PySem.W.mg_of X G a_answer_of, PySem.W.mg_of X G a_gate_answer, PySem.W.mg_of X G a_least_answer⟩
  have LN : LnD K mg f_law_answer _ := ⟨F_law_answer, b_law_answer, PySem.W.mg_of X G a_law_answer⟩
  have zd := PySem.W.mg_none_of X G z_dict
  have U9 : Up09 K mg N HE NN := ⟨exm_sub bN is_NoRecipe tN sb_N_N, ⟨cg_NoRecipe, ck_NoRecipe, bN, cd_NoRecipe_, ca_NoRecipe, cn_NoRecipe, ct_NoRecipe_, cm_NoRecipe⟩, PySem.W.mg_of X G aN, PySem.W.mg_of X G aX_HallError, PySem.W.mg_of X G aX_NoName,
    PySem.W.mg_none_of X G z_isi, kit_cls ne_N_HE is_HallError tX_HallError sb_N_HE, kit_cls ne_N_NN is_NoName tX_NoName sb_N_NN⟩
  have Gwh : FnOk l.prog w K mg base CX0 1 f_law_whole _ ["_law_found"] spWhole := ok_whole F_law_whole (PySem.W.mg_none_of X G z_isi) (PySem.W.mg_none_of X G z_int) (PySem.W.mg_none_of X G z_bool)
  have Gch : FnOk l.prog w K mg base CX0 (1 + 1 + 2 * 2 + 1) f_changed _ ["recipes", "stands"] (spChanged pp_changed (pp_law_fits, QF) 2) := ok_changed (XT := (pp_law_fits, QF)) (T := pp_changed) (m := 2) l_changed c_changed TA' (hTB (cc_changed, pp_changed) List.mem_cons_self) zd nePL_law_fits_changed AN
  have Gle : FnOk l.prog w K mg base (L2.CX l.prog w) 28 f_least _ ["wells", "works"] (spLeastX N pp_changed (pp_law_fits, QF)) := ok_least F_least zd GR b_read k_read (PySem.W.mg_of X G a_read) Gch b_changed k_changed (PySem.W.mg_of X G a_changed)
  have Gfi : FnOk l.prog w K mg base CX0 7 f_law_fits _ ["_law_names_here", "_law_trees", "_law_numbers"] (spFits pp_law_fits) := ok_fits l_law_fits c_law_fits TA' (PySem.W.mg_none_of X G z_range) (hTB (cc_law_fits, pp_law_fits) (List.mem_cons_of_mem _ List.mem_cons_self)) LN
  have Grf : FnOk l.prog w K mg base CX0 29 f_law_refused _ ["_law_wells", "_law_works"] (spRef9 pp_changed pp_law_fits) := ok_refused F_law_refused U9 Gle b_least k_least (PySem.W.mg_of X G a_least)
  exact ok_law09 F_law TL ⟨ok_cell F_law_cell_at TL, b_law_cell_at, k_law_cell_at, PySem.W.mg_of X G a_law_cell_at⟩ ⟨ok_dice F_law_dice TL, b_law_dice, k_law_dice, PySem.W.mg_of X G a_law_dice⟩ ⟨ok_namesU F_law_names TL, b_law_names, k_law_names, PySem.W.mg_of X G a_law_names⟩
    ⟨Gt1, b_law_tree, k_law_tree, PySem.W.mg_of X G a_law_tree⟩ ⟨Gw1, b_law_written, k_law_written, PySem.W.mg_of X G a_law_written⟩ ⟨Gle, b_least, k_least, PySem.W.mg_of X G a_least⟩ ⟨Gwh, b_law_whole, k_law_whole, PySem.W.mg_of X G a_law_whole⟩ ⟨Gfi, b_law_fits, k_law_fits, PySem.W.mg_of X G a_law_fits⟩ ⟨Grf, b_law_refused, k_law_refused, PySem.W.mg_of X G a_law_refused⟩
theorem walk {l : PySem.W.OpenLaw} {q : Program} {loose : List Str} {XP : (Str → Option Value) → Heap → Prop} {YP : World → Heap → Prop} {d : DefRec} {K : Params → PySem.W.Frag} (hn : l.most = some 63) (hdf : d.params.defaults = [])
    (hY : ∀ (w : World) (h : Heap), YP w h → (K w.params).In h)
    (F : ∀ (w : World) (mg : Str → Option Value) (fa : Addr) (h : Heap), YP w h → (K w.params).In h → h.Ns mainGlobals mg → mg d.name = some (.ref fa) → LamX.LawAtS l w (K w.params) CX0 30 63 "_law_script" mg fa h) :
    PySem.W.WalkO q loose XP YP l.row.toRowW d [] (fun f vs => PySem.call f vs) :=
  LamX.walk_ofTs (n := 63) (k := 30) (x := "_law_script") (K := K) (CX := fun _ => CX0) hn (by decide) hdf ⟨rfl, by decide, by decide⟩ hY F fun _ _ _ _ _ z => z
end Aw
open PySem PySem.W PyProof.Rows
set_option maxRecDepth 100000 in
set_option maxHeartbeats 0 in
theorem PySem.Challenge.cw_anewhall_k09_least_fit_holds : PySem.Challenge.rw_anewhall_k09_least_fit.Holds := by
  w_on; o_law; k_head; (case hw => w_witness2)
  k_fill
  refine Aw.walk (l := PySem.Challenge.rw_anewhall_k09_least_fit) rfl rfl (fun w h Y => PySem.W.km_in_of Y) ?F
  case F =>
    intro w mg fa h Y KX G hmg
    refine' Aw.all_mk KX G hmg (PySem.W.km_tabs_of Y) ?a_number_piece ?l_number_piece ?c_number_piece ?k_number_piece ?a_name_piece ?l_name_piece ?c_name_piece ?k_name_piece ?a_gate_piece ?l_gate_piece ?c_gate_piece ?k_gate_piece ?a_joined_piece ?l_joined_piece ?c_joined_piece ?k_joined_piece ?a_answer_of ?l_answer_of ?c_answer_of ?k_answer_of ?a_gate_answer ?l_gate_answer ?c_gate_answer ?k_gate_answer ?a_least_answer ?l_least_answer ?c_least_answer ?k_least_answer ?a_Words_init ?i_Words_init ?l_Words_init ?c_Words_init ?k_Words_init ?a_Words_ahead ?i_Words_ahead ?l_Words_ahead ?c_Words_ahead ?k_Words_ahead ?a_Words_taken ?i_Words_taken ?l_Words_taken ?c_Words_taken ?k_Words_taken ?a_Words_expect ?i_Words_expect ?l_Words_expect ?c_Words_expect ?k_Words_expect ?a_read ?l_read ?c_read ?k_read ?a_words_of ?l_words_of ?c_words_of ?k_words_of ?a_kind_of ?l_kind_of ?c_kind_of ?k_kind_of ?a_read_level ?l_read_level ?c_read_level ?k_read_level ?a_read_piece ?l_read_piece ?c_read_piece ?k_read_piece ?a_read_gate ?l_read_gate ?c_read_gate ?k_read_gate ?a_is_name ?l_is_name ?c_is_name ?k_is_name ?a_number_of ?l_number_of ?c_number_of ?k_number_of ?a_least ?l_least ?c_least ?k_least ?a_changed ?l_changed ?c_changed ?k_changed ?a_law_cell_at ?l_law_cell_at ?c_law_cell_at ?k_law_cell_at ?a_law_dice ?l_law_dice ?c_law_dice ?k_law_dice ?a_law_roll ?l_law_roll ?c_law_roll ?k_law_roll ?a_law_names ?l_law_names ?c_law_names ?k_law_names ?a_law_tree ?l_law_tree ?c_law_tree ?k_law_tree ?a_law_answer ?l_law_answer ?c_law_answer ?k_law_answer ?a_law_written ?l_law_written ?c_law_written ?k_law_written ?a_law_whole ?l_law_whole ?c_law_whole ?k_law_whole ?a_law_fits ?l_law_fits ?c_law_fits ?k_law_fits ?a_law_refused ?l_law_refused ?c_law_refused ?k_law_refused ?a_law ?l_law ?c_law ?k_law ?aC ?pg ?hd ?po ?sa ?mk ?kc ?nW ?nA ?aN ?xN ?kN ?bN ?tN ?z_len ?z_range ?z_str ?z_all ?z_tuple ?z_int ?g1 ?g2 ?g3 ?g4 ?g5 ?g6 ?g7 ?g8 ?g9 ?gL ?lL ?gS ?lS ?kS ?s1 ?s2 ?s3 ?z_isi ?z_bool ?z_min ?z_max ?z_sum ?z_dict ?aX_NoName ?tX_NoName ?is_NoName ?sb_N_NN ?ne_N_NN ?aX_HallError ?tX_HallError ?is_HallError ?sb_N_HE ?ne_N_HE ?sb_N_N ?is_NoRecipe ?cn_NoRecipe ?ct_NoRecipe_ ?cg_NoRecipe ?ck_NoRecipe ?cd_NoRecipe_ ?ca_NoRecipe ?cm_NoRecipe ?lC_changed ?eP_changed ?tP_changed ?nP_changed ?iP_changed ?lC_law_fits ?eP_law_fits ?tP_law_fits ?nP_law_fits ?iP_law_fits ?nePL_law_fits_changed
    (case a_changed => k_is)
    (case l_changed => k_is)
    (case a_law_fits => k_is)
    (case l_law_fits => k_is)
    (case aC => k_is)
    (case pg => k_is)
    (case hd => k_is)
    (case po => k_is)
    (case sa => k_is)
    (case mk => k_is)
    (case kc => k_is)
    (case nW => k_is)
    (case nA => k_is)
    (case aN => k_is)
    (case xN => k_exc)
    (case kN => k_is)
    (case bN => k_is)
    (case tN => k_is)
    (case z_len => k_is)
    (case z_range => k_is)
    (case z_str => k_is)
    (case z_all => k_is)
    (case z_tuple => k_is)
    (case z_int => k_is)
    (case g1 => k_is)
    (case g2 => k_is)
    (case g3 => k_is)
    (case g4 => k_is)
    (case g5 => k_is)
    (case g6 => k_is)
    (case g7 => k_is)
    (case g8 => k_is)
    (case g9 => k_is)
    (case gL => k_is)
    (case lL => k_is)
    (case gS => k_is)
    (case lS => k_is)
    (case kS => k_keys)
    (case s1 => k_is)
    (case s2 => k_is)
    (case s3 => k_is)
    (case z_isi => k_is)
    (case z_bool => k_is)
    (case z_min => k_is)
    (case z_max => k_is)
    (case z_sum => k_is)
    (case z_dict => k_is)
    (case aX_NoName => k_is)
    (case tX_NoName => k_is)
    (case is_NoName => k_is)
    (case sb_N_NN => k_is)
    (case ne_N_NN => rfl)
    (case aX_HallError => k_is)
    (case tX_HallError => k_is)
    (case is_HallError => k_is)
    (case sb_N_HE => k_is)
    (case ne_N_HE => rfl)
    (case sb_N_N => k_is)
    (case is_NoRecipe => k_is)
    (case cn_NoRecipe => k_is)
    (case ct_NoRecipe_ => k_is)
    (case cg_NoRecipe => k_is)
    (case ck_NoRecipe => k_is)
    (case cd_NoRecipe_ => k_is)
    (case ca_NoRecipe => k_is)
    (case cm_NoRecipe => k_is)
    (case lC_changed => k_is)
    (case eP_changed => rfl)
    (case tP_changed => kernel_rfl)
    (case nP_changed => kernel_rfl)
    (case iP_changed => k_mem)
    (case lC_law_fits => k_is)
    (case eP_law_fits => rfl)
    (case tP_law_fits => kernel_rfl)
    (case nP_law_fits => kernel_rfl)
    (case iP_law_fits => k_mem)
    (case nePL_law_fits_changed => decide)
    (case a_number_piece => k_is)
    (case l_number_piece => k_is)
    (case c_number_piece => k_is)
    (case k_number_piece => k_is)
    (case a_name_piece => k_is)
    (case l_name_piece => k_is)
    (case c_name_piece => k_is)
    (case k_name_piece => k_is)
    (case a_gate_piece => k_is)
    (case l_gate_piece => k_is)
    (case c_gate_piece => k_is)
    (case k_gate_piece => k_is)
    (case a_joined_piece => k_is)
    (case l_joined_piece => k_is)
    (case c_joined_piece => k_is)
    (case k_joined_piece => k_is)
    (case a_answer_of => k_is)
    (case l_answer_of => k_is)
    (case c_answer_of => k_is)
    (case k_answer_of => k_is)
    (case a_gate_answer => k_is)
    (case l_gate_answer => k_is)
    (case c_gate_answer => k_is)
    (case k_gate_answer => k_is)
    (case a_least_answer => k_is)
    (case l_least_answer => k_is)
    (case c_least_answer => k_is)
    (case k_least_answer => k_is)
    (case a_Words_init => k_is)
    (case i_Words_init => k_is)
    (case l_Words_init => k_is)
    (case c_Words_init => k_is)
    (case k_Words_init => k_is)
    (case a_Words_ahead => k_is)
    (case i_Words_ahead => k_is)
    (case l_Words_ahead => k_is)
    (case c_Words_ahead => k_is)
    (case k_Words_ahead => k_is)
    (case a_Words_taken => k_is)
    (case i_Words_taken => k_is)
    (case l_Words_taken => k_is)
    (case c_Words_taken => k_is)
    (case k_Words_taken => k_is)
    (case a_Words_expect => k_is)
    (case i_Words_expect => k_is)
    (case l_Words_expect => k_is)
    (case c_Words_expect => k_is)
    (case k_Words_expect => k_is)
    (case a_read => k_is)
    (case l_read => k_is)
    (case c_read => k_is)
    (case k_read => k_is)
    (case a_words_of => k_is)
    (case l_words_of => k_is)
    (case c_words_of => k_is)
    (case k_words_of => k_is)
    (case a_kind_of => k_is)
    (case l_kind_of => k_is)
    (case c_kind_of => k_is)
    (case k_kind_of => k_is)
    (case a_read_level => k_is)
    (case l_read_level => k_is)
    (case c_read_level => k_is)
    (case k_read_level => k_is)
    (case a_read_piece => k_is)
    (case l_read_piece => k_is)
    (case c_read_piece => k_is)
    (case k_read_piece => k_is)
    (case a_read_gate => k_is)
    (case l_read_gate => k_is)
    (case c_read_gate => k_is)
    (case k_read_gate => k_is)
    (case a_is_name => k_is)
    (case l_is_name => k_is)
    (case c_is_name => k_is)
    (case k_is_name => k_is)
    (case a_number_of => k_is)
    (case l_number_of => k_is)
    (case c_number_of => k_is)
    (case k_number_of => k_is)
    (case a_least => k_is)
    (case l_least => k_is)
    (case c_least => k_is)
    (case k_least => k_is)
    (case c_changed => k_is)
    (case k_changed => k_is)
    (case a_law_cell_at => k_is)
    (case l_law_cell_at => k_is)
    (case c_law_cell_at => k_is)
    (case k_law_cell_at => k_is)
    (case a_law_dice => k_is)
    (case l_law_dice => k_is)
    (case c_law_dice => k_is)
    (case k_law_dice => k_is)
    (case a_law_roll => k_is)
    (case l_law_roll => k_is)
    (case c_law_roll => k_is)
    (case k_law_roll => k_is)
    (case a_law_names => k_is)
    (case l_law_names => k_is)
    (case c_law_names => k_is)
    (case k_law_names => k_is)
    (case a_law_tree => k_is)
    (case l_law_tree => k_is)
    (case c_law_tree => k_is)
    (case k_law_tree => k_is)
    (case a_law_answer => k_is)
    (case l_law_answer => k_is)
    (case c_law_answer => k_is)
    (case k_law_answer => k_is)
    (case a_law_written => k_is)
    (case l_law_written => k_is)
    (case c_law_written => k_is)
    (case k_law_written => k_is)
    (case a_law_whole => k_is)
    (case l_law_whole => k_is)
    (case c_law_whole => k_is)
    (case k_law_whole => k_is)
    (case c_law_fits => k_is)
    (case k_law_fits => k_is)
    (case a_law_refused => k_is)
    (case l_law_refused => k_is)
    (case c_law_refused => k_is)
    (case k_law_refused => k_is)
    (case a_law => k_is)
    (case l_law => k_is)
    (case c_law => k_is)
    (case k_law => k_is)

