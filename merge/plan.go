package merge

const (
	together = 4 // how many files of one Level are merged
	highest  = 4 // the Level above which there is none
)

// Info is what Plan asks of a file.
type Info struct {
	Level int
	Tombs bool
}

// Plan is the place of the first file to be merged, how many, and the Level of what comes of them; 0, 0, 0, if there is none.
func Plan(files []Info) (int, int, int) {
	if at, found := alike(files); found {
		return at, together, files[at].Level + 1
	}
	if len(files) > 1 {
		return 0, len(files), highest
	}
	if len(files) == 1 && files[0].Tombs {
		return 0, 1, files[0].Level
	}
	return 0, 0, 0
}

// alike is the place of the first files that stand side by side, are enough, and are of one Level that isn't the highest.
func alike(files []Info) (int, bool) {
	begin := 0
	for i, f := range files {
		if f.Level != files[begin].Level {
			begin = i
		}
		if i-begin+1 == together && f.Level < highest {
			return begin, true
		}
	}
	return 0, false
}
