package scan

import (
	"slices"

	"vellum/api"
)

// classesOfData returns the classes of the bytes of an image without code.
func classesOfData(i api.Image) [][]byte {
	classes := make([][]byte, len(i.Banks))
	for bank, sizes := range sizesOfObjects(i) {
		classes[bank] = make([]byte, len(sizes))
		end := 0
		for off, size := range sizes {
			end = max(end, off+size)
			if off < end {
				classes[bank][off] = api.Const
			}
		}
	}
	return classes
}

// sizesOfObjects returns for each byte of each bank the size of the greatest object that begins there, or 0. It keeps
// the time short for any number of objects that contain each other.
func sizesOfObjects(i api.Image) [][]int {
	sizes := make([][]int, len(i.Banks))
	for bank := range sizes {
		sizes[bank] = make([]int, len(i.Banks[bank]))
	}
	for _, o := range i.Data {
		if o.Bank >= 0 && o.Bank < len(sizes) && int(o.Addr) < len(sizes[o.Bank]) {
			sizes[o.Bank][o.Addr] = max(sizes[o.Bank][o.Addr], int(o.Size))
		}
	}
	return sizes
}

// isCode reports whether a class is one of the bytes of instructions.
func isCode(class byte) bool {
	return class == api.Code || class == api.Inside || class == api.Overlap
}

// classify puts the classes of tables and of code over those of data.
func (c chart) classify(i api.Image, classes [][]byte) {
	for _, s := range c.spots {
		markTable(i, s.item, classes)
	}
	for _, s := range c.spots {
		markCode(classesOf(s.item, classes))
	}
}

// markTable marks the entries of the table that an instruction has, as far as they exist.
func markTable(i api.Image, item api.Item, classes [][]byte) {
	if item.Ins.Op != api.JTAB {
		return
	}
	for k := range item.Ins.Bank {
		cells, err := cellsOfEntry(i, item, k)
		if err != api.OK {
			continue
		}
		for _, c := range cells {
			classes[c.bank][c.off] = api.Table
		}
	}
}

// classesOf returns the classes of the bytes of an instruction.
func classesOf(item api.Item, classes [][]byte) []byte {
	if item.Ins.Size == 0 {
		return nil
	}
	off := int(item.At.Addr) % api.BankSize
	return classes[item.At.Bank][off : off+item.Ins.Size]
}

// markCode marks the bytes of an instruction after those of all tables.
func markCode(bytes []byte) {
	for n := range bytes {
		switch {
		case isCode(bytes[n]):
			bytes[n] = api.Overlap
		case n == 0:
			bytes[n] = api.Code
		default:
			bytes[n] = api.Inside
		}
	}
}

// overlaps returns the issues of instructions that share bytes with others.
func (c chart) overlaps(classes [][]byte) []api.Issue {
	var issues []api.Issue
	for _, s := range c.spots {
		if slices.Contains(classesOf(s.item, classes), api.Overlap) {
			issues = append(issues, api.Issue{Kind: api.ErrOverlap, At: s.item.At})
		}
	}
	return issues
}
