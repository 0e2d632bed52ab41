/- The contract of catnaplaw4.chip: what its parts share. (Written by wip/tools/h0.py.) -/
import Derived.Test.YtnfbhhgdibkbdaaD
import Derived.Deep.DeepCutAuto
import Derived.Deep.CutBlock
namespace Go.Proofs.Ytnfbhhgdibkbdaa
set_option linter.unusedSimpArgs false
set_option linter.unusedVariables false
open Go.RowKit Go.Maps

/-- a frame of chip -/
structure Fr (a : Act) : Prop where
  sz : a.tmps.size = 352
  df : a.defers = []
theorem Fr.open_ {a : Act} (h : Fr a) : ∃ T : Nat → Value, a = ⟨listT T 352, []⟩ := ⟨slT a, act_ext (by rw [listT_sl a h.sz]) h.df⟩
theorem slT_listT {T : Nat → Value} {n t : Nat} {d : List Deferred} (h : t < n) : slT ⟨listT T n, d⟩ t = T t := by
  simp [slT, listT, h]
set_option maxRecDepth 100000 in
theorem lit352 (T : Nat → Value) : listT T 352 = List.toArray (T 0 :: T 1 :: T 2 :: T 3 :: T 4 :: T 5 :: T 6 :: T 7 :: T 8 :: T 9 :: T 10 :: T 11 :: T 12 :: T 13 :: T 14 :: T 15 :: T 16 :: T 17 :: T 18 :: T 19 :: T 20 :: T 21 :: T 22 :: T 23 :: T 24 :: T 25 :: T 26 :: T 27 :: T 28 :: T 29 :: T 30 :: T 31 :: T 32 :: T 33 :: T 34 :: T 35 :: T 36 :: T 37 :: T 38 :: T 39 :: T 40 :: T 41 :: T 42 :: T 43 :: T 44 :: T 45 :: T 46 :: T 47 :: T 48 :: T 49 :: T 50 :: T 51 :: T 52 :: T 53 :: T 54 :: T 55 :: T 56 :: T 57 :: T 58 :: T 59 :: T 60 :: T 61 :: T 62 :: T 63 :: T 64 :: T 65 :: T 66 :: T 67 :: T 68 :: T 69 :: T 70 :: T 71 :: T 72 :: T 73 :: T 74 :: T 75 :: T 76 :: T 77 :: T 78 :: T 79 :: T 80 :: T 81 :: T 82 :: T 83 :: T 84 :: T 85 :: T 86 :: T 87 :: T 88 :: T 89 :: T 90 :: T 91 :: T 92 :: T 93 :: T 94 :: T 95 :: T 96 :: T 97 :: T 98 :: T 99 :: T 100 :: T 101 :: T 102 :: T 103 :: T 104 :: T 105 :: T 106 :: T 107 :: T 108 :: T 109 :: T 110 :: T 111 :: T 112 :: T 113 :: T 114 :: T 115 :: T 116 :: T 117 :: T 118 :: T 119 :: T 120 :: T 121 :: T 122 :: T 123 :: T 124 :: T 125 :: T 126 :: T 127 :: T 128 :: T 129 :: T 130 :: T 131 :: T 132 :: T 133 :: T 134 :: T 135 :: T 136 :: T 137 :: T 138 :: T 139 :: T 140 :: T 141 :: T 142 :: T 143 :: T 144 :: T 145 :: T 146 :: T 147 :: T 148 :: T 149 :: T 150 :: T 151 :: T 152 :: T 153 :: T 154 :: T 155 :: T 156 :: T 157 :: T 158 :: T 159 :: T 160 :: T 161 :: T 162 :: T 163 :: T 164 :: T 165 :: T 166 :: T 167 :: T 168 :: T 169 :: T 170 :: T 171 :: T 172 :: T 173 :: T 174 :: T 175 :: T 176 :: T 177 :: T 178 :: T 179 :: T 180 :: T 181 :: T 182 :: T 183 :: T 184 :: T 185 :: T 186 :: T 187 :: T 188 :: T 189 :: T 190 :: T 191 :: T 192 :: T 193 :: T 194 :: T 195 :: T 196 :: T 197 :: T 198 :: T 199 :: T 200 :: T 201 :: T 202 :: T 203 :: T 204 :: T 205 :: T 206 :: T 207 :: T 208 :: T 209 :: T 210 :: T 211 :: T 212 :: T 213 :: T 214 :: T 215 :: T 216 :: T 217 :: T 218 :: T 219 :: T 220 :: T 221 :: T 222 :: T 223 :: T 224 :: T 225 :: T 226 :: T 227 :: T 228 :: T 229 :: T 230 :: T 231 :: T 232 :: T 233 :: T 234 :: T 235 :: T 236 :: T 237 :: T 238 :: T 239 :: T 240 :: T 241 :: T 242 :: T 243 :: T 244 :: T 245 :: T 246 :: T 247 :: T 248 :: T 249 :: T 250 :: T 251 :: T 252 :: T 253 :: T 254 :: T 255 :: T 256 :: T 257 :: T 258 :: T 259 :: T 260 :: T 261 :: T 262 :: T 263 :: T 264 :: T 265 :: T 266 :: T 267 :: T 268 :: T 269 :: T 270 :: T 271 :: T 272 :: T 273 :: T 274 :: T 275 :: T 276 :: T 277 :: T 278 :: T 279 :: T 280 :: T 281 :: T 282 :: T 283 :: T 284 :: T 285 :: T 286 :: T 287 :: T 288 :: T 289 :: T 290 :: T 291 :: T 292 :: T 293 :: T 294 :: T 295 :: T 296 :: T 297 :: T 298 :: T 299 :: T 300 :: T 301 :: T 302 :: T 303 :: T 304 :: T 305 :: T 306 :: T 307 :: T 308 :: T 309 :: T 310 :: T 311 :: T 312 :: T 313 :: T 314 :: T 315 :: T 316 :: T 317 :: T 318 :: T 319 :: T 320 :: T 321 :: T 322 :: T 323 :: T 324 :: T 325 :: T 326 :: T 327 :: T 328 :: T 329 :: T 330 :: T 331 :: T 332 :: T 333 :: T 334 :: T 335 :: T 336 :: T 337 :: T 338 :: T 339 :: T 340 :: T 341 :: T 342 :: T 343 :: T 344 :: T 345 :: T 346 :: T 347 :: T 348 :: T 349 :: T 350 :: T 351 :: []) := rfl
def tlC : Code → Code | .seq _ b => b | c => c
def hdC : Code → Code | .seq a _ => a | c => c
def blC : Code → Code | .block _ c => c | c => c
def lpC : Code → Code | .loop c => c | c => c
def thC : Code → Code | .cond _ a _ => a | c => c
noncomputable def body24 : Code := Try.f14.body.getD .skip
noncomputable def loop1 : Code := blC (tlC (hdC (tlC (tlC (tlC body24)))))
noncomputable def rest1 : Code := tlC (tlC (tlC (tlC body24)))
noncomputable def loop2 : Code := blC (tlC (hdC (tlC (tlC (tlC rest1)))))
noncomputable def rest2 : Code := tlC (tlC (tlC (tlC rest1)))
noncomputable def loop3 : Code := blC (tlC (hdC rest2))
noncomputable def rest3 : Code := tlC rest2
noncomputable def loop4 : Code := blC (tlC (hdC rest3))
noncomputable def rest4 : Code := tlC rest3
noncomputable def loop5 : Code := blC (tlC (hdC rest4))
noncomputable def rest5 : Code := tlC rest4
/-- the round of loop 5: its parts -/
noncomputable def dev0 : Code := blC (hdC (tlC (lpC loop5)))
noncomputable def dev1 : Code := tlC (tlC dev0)
noncomputable def loop6 : Code := blC (tlC (hdC dev1))
noncomputable def dev2 : Code := tlC dev1
noncomputable def dev3 : Code := tlC dev2
noncomputable def dev4 : Code := tlC dev3
theorem make_120 (W : World) :
    (Instr.makeSlice 35 (.int .i64 120) (.int .i64 120)).run Try.prog W = .ok (.slice (some ⟨W.heap.size, 0, none⟩) 120 120) (W.alloc (.cells (madeCells #[.int .i64 0] 120) 3)) := by
  obtain ⟨i0, hi, hz0, hz1, hz2⟩ := info_parts Try.info3
  have h := run_make (P := Try.prog) (w := W) 35 3 i0 (.int .i64 0) Try.underlying35 hi hz0 .i64 .i64 120 120 (by omega) (by omega) (by rw [hz2]; omega) (by omega)
  simp only [hz1, Nat.mul_one] at h
  exact h
/-- the first k numbers are drawn -/
def DrawsTo (w : World) (g : Nat) (d : Nat → Nat) (k : Nat) : Prop := ∀ i, i < 120 → w.frozen? ⟨g, i, none⟩ = false ∧ w.cell? ⟨g, i, none⟩ = some (.int .i64 ((if i < k then d i else 0 : Nat) : Int))
theorem draws_new (W : World) (d : Nat → Nat) : DrawsTo (W.alloc (.cells (madeCells #[.int .i64 0] 120) 3)) W.heap.size d 0 := by
  intro i hi
  have hh : (W.alloc (.cells (madeCells #[.int .i64 0] 120) 3)).heap[W.heap.size]? = some (.cells (madeCells #[.int .i64 0] 120) 3 (0, 0)) := heap_alloc_new W _
  refine ⟨frozen_of_row _ _ _ _ _ hh, ?_⟩
  rw [cell_of_row _ _ i _ _ _ hh]
  simp [madeCells, hi, Nat.mod_one]
theorem DrawsTo.grown {w w' : World} {g k : Nat} {d : Nat → Nat} {row : Option Nat} (h : DrawsTo w g d k) (hg : w.grownBy w' row) (hl : g < w.heap.size) (hne : some g ≠ row) : DrawsTo w' g d k := fun i hi =>
  ⟨(hg.frozen_far ⟨g, i, none⟩ hl hne).trans (h i hi).1, hg.cell (h i hi).2 hne⟩
theorem DrawsTo.move {w w' : World} {g k : Nat} {d : Nat → Nat} {hot : List Nat} (h : DrawsTo w g d k) (hm : Moved hot w w') (hl : g < w.heap.size) (hne : g ∉ hot) : DrawsTo w' g d k := fun i hi =>
  ⟨(hm.frozen (p := ⟨g, i, none⟩) hl hne).trans (h i hi).1, hm.cell (h i hi).2 hne⟩
theorem DrawsTo.set {w : World} {g k : Nat} {d : Nat → Nat} (h : DrawsTo w g d k) (hk : k < 120) : DrawsTo (w.setCell ⟨g, k, none⟩ (.int .i64 (d k : Nat))) g d (k + 1) := by
  intro i hi
  obtain ⟨h1, h2⟩ := h i hi
  refine ⟨by rw [World.frozen?_setCell]; exact h1, ?_⟩
  by_cases e : i = k
  · subst e
    rw [if_pos (Nat.lt_succ_self _)]
    exact World.cell?_setCell_same' _ _ _ (by rw [h2]; rfl)
  · rw [World.cell?_setCell_other w _ _ _ (fun h => e (by cases h; rfl)), h2]
    by_cases h3 : i < k
    · rw [if_pos h3, if_pos (by omega)]
    · rw [if_neg h3, if_neg (by omega)]

/-- the world ahead of the clocks -/
def wa4 (wa : World) (d : Nat → Nat) : World := (wa.alloc (.cells #[.int .u8 111, .slice none 0 0, .int .u64 (1 + (d 0 : Nat)), .int .i64 0, .int .i64 0, .int .i64 0] 46)).alloc (.cells #[.slice (some ⟨wa.heap.size, 0, none⟩) 1 1, .slice none 0 0, .slice none 0 0, .slice none 0 0] 27)
theorem range_clks (d : Nat → Nat) (n : Nat) : clksP d (n + 1) = clksP d n ++ [clkP d n] := by
  unfold clksP
  rw [range_snoc, List.cons_append]
theorem blk_lt {w : World} {b : Nat} {o : Obj} (h : w.heap[b]? = some o) : b < w.heap.size := by
  rcases Nat.lt_or_ge b w.heap.size with hl | hl
  · exact hl
  · rw [Array.getElem?_eq_none hl] at h; cases h
theorem ints_blk {w : World} {b : Nat} {x : Int} (h : w.heap[b]? = some (.cells [.int .i64 x].toArray 3 (0, 0))) (o : Obj) (hot : List Nat) (hn : b ∉ hot) : IntsC hot (w.alloc o) (some ⟨b, 0, none⟩) [x] := fun _ => by
  refine ⟨_, rfl, by simp; have := blk_lt h; omega, hn, fun j y hj => ?_⟩
  cases j with
  | zero =>
    simp at hj
    subst hj
    refine Lib.cell?_alloc_some _ ?_
    rw [Addr.add_lit, cell_of_row _ _ _ _ _ _ h]
    rfl
  | succ j => simp at hj
theorem clksP_len (d : Nat → Nat) (n : Nat) : (clksP d n).length = n + 1 := by simp [clksP]
structure Ph2 (w : World) (gd gs B : Nat) (d : Nat → Nat) (v1 : Value) (n : Nat) : Prop where
  row : RowC ClkC 6 46 (gs :: v1.ownBlock.toList) w B v1 (clksP d n)
  ne : v1.ownBlock ≠ some gs
  bx : BoxAt w gs [v1, .slice none 0 0, .slice none 0 0, .slice none 0 0]
  dr : DrawsTo w gd d 120
theorem domsP_len (d : Nat → Nat) (n : Nat) : (domsP d n).length = n := by simp [domsP]
structure Ph3 (w wb : World) (gd gs : Nat) (d : Nat → Nat) (v1 v2 : Value) (n : Nat) : Prop where
  row : RowC DomC 3 75 (gs :: v2.ownBlock.toList) w wb.heap.size v2 (domsP d n)
  ne : v2.ownBlock ≠ some gs
  bx : BoxAt w gs [v1, v2, .slice none 0 0, .slice none 0 0]
  dr : DrawsTo w gd d 120
  mb : Moved [gs] wb w
theorem rstsP_len (d : Nat → Nat) (n : Nat) : (rstsP d n).length = n := by simp [rstsP]
structure Ph4 (w wb : World) (gd gs : Nat) (d : Nat → Nat) (v1 v2 v3 : Value) (n : Nat) : Prop where
  row : RowC RstC 1 80 (gs :: v3.ownBlock.toList) w wb.heap.size v3 (rstsP d n)
  ne : v3.ownBlock ≠ some gs
  bx : BoxAt w gs [v1, v2, v3, .slice none 0 0]
  dr : DrawsTo w gd d 120
  mb : Moved [gs] wb w
theorem regsP_len (d : Nat → Nat) (k n : Nat) : (regsP d k n).length = n := by simp [regsP]
theorem devsP_len (d : Nat → Nat) (a b c n : Nat) : (devsP d a b c n).length = n := by simp [devsP]
structure Ph5 (w wb : World) (gd gs : Nat) (d : Nat → Nat) (v1 v2 v3 v4 : Value) (n : Nat) : Prop where
  row : RowC DevC 6 86 (gs :: v4.ownBlock.toList) w wb.heap.size v4 (devsP d (nClk d + 1) (nDom d) (nRst d) n)
  ne : v4.ownBlock ≠ some gs
  bx : BoxAt w gs [v1, v2, v3, v4]
  dr : DrawsTo w gd d 120
  mb : Moved [gs] wb w
theorem start_grown (wa : World) (d : Nat → Nat) : wa.grownBy (wa4 wa d) none := (World.grownBy_alloc _ _ _).trans (World.grownBy_alloc _ _ _)
theorem start2 (wa : World) (d : Nat → Nat) : RowC ClkC 6 46 ((wa.heap.size + 1) :: (Value.slice (some ⟨wa.heap.size, 0, none⟩) 1 1).ownBlock.toList) (wa4 wa d) wa.heap.size (.slice (some ⟨wa.heap.size, 0, none⟩) 1 1) (clksP d 0) ∧ (Value.slice (some ⟨wa.heap.size, 0, none⟩) 1 1).ownBlock ≠ some (wa.heap.size + 1) ∧
    BoxAt (wa4 wa d) (wa.heap.size + 1) [.slice (some ⟨wa.heap.size, 0, none⟩) 1 1, .slice none 0 0, .slice none 0 0, .slice none 0 0] := by
  refine ⟨⟨[[.int .u8 111, .slice none 0 0, .int .u64 (1 + (d 0 : Nat)), .int .i64 0, .int .i64 0, .int .i64 0]], rfl, fun k x vs hx hv => ?_, rfl, .inr ⟨wa.heap.size, 1, #[.int .u8 111, .slice none 0 0, .int .u64 (1 + (d 0 : Nat)), .int .i64 0, .int .i64 0, .int .i64 0], rfl, Nat.le_refl _, ?_, Nat.le_refl _, by unfold maxLen; omega, rfl, rfl⟩⟩, by simp [Value.ownBlock], ?_⟩
  · cases k with
    | zero =>
      simp [clksP] at hx hv
      subst hx
      subst hv
      exact ⟨rfl, none, 0, by simp [oscP], Nat.zero_le _, fun h => absurd h (by simp [oscP])⟩
    | succ k => simp [clksP] at hx
  · show ((wa.alloc _).alloc _).heap[wa.heap.size]? = _
    rw [heap_alloc_old _ _ (by simp), heap_alloc_new]
  · have := BoxAt.new (wa.alloc (.cells #[.int .u8 111, .slice none 0 0, .int .u64 (1 + (d 0 : Nat)), .int .i64 0, .int .i64 0, .int .i64 0] 46)) [.slice (some ⟨wa.heap.size, 0, none⟩) 1 1, .slice none 0 0, .slice none 0 0, .slice none 0 0] 27
    simpa [wa4] using this


end Go.Proofs.Ytnfbhhgdibkbdaa
